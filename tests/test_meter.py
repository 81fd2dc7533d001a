"""meter and means: what is told of a meter's content and visits."""

import unittest

from meterbookdesk.book import answer_of
from meterbookdesk.state import Book
from tests.helper import BIG, BILLION, PLACES, last, run


class TestMeter(unittest.TestCase):
    def test_a_meter_of_a_new_book(self):
        for number in (0, 1, 254, 255):
            self.assertEqual(last(("meter", number)), [0] * 10)

    def test_all_ten_numbers(self):
        found = last(
            ("join", 2, 7, 1, 10), ("join", 5, 7, 2, 4), ("raise", 6, 7, 3), ("quit", 8, 7, 1),
            ("join", 9, 7, 3, 1), ("quit", 9, 7, 3), ("lower", 11, 7, 2), ("tick", 20), ("meter", 7),
        )
        # 10 for 3, 14 for 1, 17 for 2, 7 for 1, 8 for 0, 7 for 2, 5 for 9.
        self.assertEqual(found, [5, 17, 30 + 14 + 34 + 7 + 14 + 45, 3, 2, 1, 6, 60, 1, 1])

    def test_meters_are_apart(self):
        found = run(("join", 0, 3, 1, 5), ("raise", 1, 4, 6), ("tick", 3), ("meter", 3), ("meter", 4), ("meter", 5))
        self.assertEqual(found[3], [5, 5, 15, 1, 0, 0, 0, 0, 1, 0])
        self.assertEqual(found[4], [6, 6, 12, 0, 0, 0, 0, 0, 0, 6])
        self.assertEqual(found[5], [0] * 10)

    def test_spans_of_length_0_count_for_the_greatest_content(self):
        found = last(("raise", 1, 0, 5), ("raise", 4, 0, 90), ("lower", 4, 0, 92), ("tick", 6), ("meter", 0))
        self.assertEqual(found, [3, 95, 5 * 3 + 3 * 2, 0, 0, 0, 0, 0, 0, 3])

    def test_the_last_span_counts_where_the_clock_is_at_the_change(self):
        self.assertEqual(last(("raise", 4, 0, 90), ("meter", 0))[:3], [90, 90, 0])

    def test_many_changes_at_one_time(self):
        found = last(("join", 3, 0, 1, 2), ("join", 3, 0, 2, 5), ("quit", 3, 0, 1), ("raise", 3, 0, 4),
                     ("quit", 3, 0, 2), ("lower", 3, 0, 3), ("tick", 5), ("meter", 0))
        self.assertEqual(found, [1, 9, 2, 2, 2, 2, 0, 0, 0, 1])

    def test_the_content_of_the_reset_counts_for_the_greatest(self):
        found = last(("raise", 0, 0, 50), ("reset", 3), ("lower", 3, 0, 49), ("tick", 5), ("meter", 0))
        self.assertEqual(found, [1, 50, 2, 0, 0, 0, 0, 0, 0, 1])

    def test_the_greatest_content_from_before_the_reset_does_not_count(self):
        found = last(("raise", 0, 0, 50), ("lower", 3, 0, 49), ("reset", 3), ("tick", 5), ("meter", 0))
        self.assertEqual(found, [1, 1, 2, 0, 0, 0, 0, 0, 0, 1])

    def test_visits_that_lasted_0(self):
        found = last(("join", 3, 0, 1, 2), ("quit", 3, 0, 1), ("join", 3, 0, 1, 2), ("quit", 3, 0, 1),
                     ("join", 3, 0, 1, 2), ("quit", 4, 0, 1), ("meter", 0))
        self.assertEqual(found, [0, 2, 2, 3, 3, 2, 1, 2, 0, 0])

    def test_each_visit_lasts_since_its_own_begin(self):
        found = last(("join", 1, 0, 1, 2), ("quit", 4, 0, 1), ("join", 10, 0, 1, 7), ("quit", 15, 0, 1), ("meter", 0))
        self.assertEqual(found, [0, 7, 6 + 35, 2, 2, 0, 8, 6 + 35, 0, 0])

    def test_raise_and_lower_are_no_visits(self):
        found = last(("raise", 1, 0, 2), ("lower", 1, 0, 2), ("raise", 1, 0, 3), ("lower", 5, 0, 3), ("meter", 0))
        self.assertEqual(found, [0, 3, 12, 0, 0, 0, 0, 0, 0, 0])

    def test_a_question_changes_nothing(self):
        calls = [("join", 1, 0, 1, 2), ("tick", 4), ("meter", 0), ("means", 0), ("meter", 0), ("quit", 6, 0, 1),
                 ("meter", 0)]
        found = run(*calls)
        self.assertEqual(found[2], found[4])
        self.assertEqual(found[6], [0, 2, 10, 1, 1, 0, 5, 10, 0, 0])

    def test_a_refused_call_is_no_moment(self):
        found = last(("join", 1, 0, 1, 2), ("join", 2, 0, 1, 9), ("lower", 2, 0, 1), ("quit", 2, 0, 3),
                     ("raise", 0, 0, 7), ("tick", 3), ("meter", 0))
        self.assertEqual(found, [2, 2, 4, 1, 0, 0, 0, 0, 1, 0])

    def test_numbers_far_beyond_those_asked(self):
        joins = [("join", 0, 0, BILLION - number, BILLION) for number in range(300)]
        raises = [("raise", 0, 0, BILLION)] * 90
        quits = [("quit", BIG, 0, BILLION), ("quit", BIG, 0, BILLION - 1)]
        found = run(*joins, *raises, *quits, ("meter", 0), ("means", 0))
        area = 390 * BILLION * BIG
        self.assertEqual(
            found[392],
            [388 * BILLION, 390 * BILLION, area, 300, 2, 0, 2 * BIG, 2 * BIG * BILLION, 298, 90 * BILLION],
        )
        self.assertEqual(found[393], [390 * BILLION, 1, BIG, 1, BIG, 1])

    def test_an_area_exact_to_the_last_digit(self):
        found = last(("raise", 1, 0, 999999999), ("raise", 3, 0, 999999998), ("tick", BIG), ("meter", 0))
        self.assertEqual(found[2], 999999999 * 2 + 1999999997 * (BIG - 3))


class TestReset(unittest.TestCase):
    def test_with_nobody_in(self):
        found = run(("join", 1, 0, 1, 2), ("quit", 3, 0, 1), ("reset", 5), ("meter", 0), ("means", 0))
        self.assertEqual(found[3:], [[0] * 10, [0, 1, 0, 1, 0, 1]])

    def test_all_that_was_noted_of_visits_is_forgotten(self):
        found = last(("join", 1, 0, 1, 2), ("quit", 1, 0, 1), ("join", 1, 0, 1, 2), ("quit", 4, 0, 1), ("reset", 5),
                     ("join", 6, 0, 1, 3), ("quit", 8, 0, 1), ("meter", 0))
        self.assertEqual(found, [0, 3, 6, 1, 1, 0, 2, 6, 0, 0])

    def test_who_is_in_counts_as_begun_at_the_reset(self):
        found = run(("join", 1, 0, 1, 2), ("join", 2, 0, 2, 3), ("raise", 3, 0, 4), ("reset", 5), ("meter", 0),
                    ("tick", 8), ("meter", 0))
        self.assertEqual(found[4], [9, 9, 0, 2, 0, 0, 0, 0, 2, 4])
        self.assertEqual(found[6], [9, 9, 27, 2, 0, 0, 0, 0, 2, 4])

    def test_they_lasted_since_the_reset(self):
        found = last(("join", 1, 0, 1, 2), ("join", 2, 0, 2, 3), ("reset", 5), ("quit", 9, 0, 1), ("meter", 0))
        self.assertEqual(found, [3, 5, 20, 2, 1, 0, 4, 8, 1, 0])

    def test_a_quit_at_the_time_of_the_reset_lasted_0(self):
        found = run(("join", 1, 0, 1, 2), ("reset", 5), ("quit", 5, 0, 1), ("meter", 0), ("tick", 7), ("meter", 0),
                    ("means", 0))
        self.assertEqual(found[3], [0, 2, 0, 1, 1, 1, 0, 0, 0, 0])
        self.assertEqual(found[5], [0, 2, 0, 1, 1, 1, 0, 0, 0, 0])
        self.assertEqual(found[6], [0, 1, 0, 1, 0, 1])

    def test_a_join_after_the_reset_at_the_same_time(self):
        found = last(("join", 1, 0, 1, 2), ("reset", 5), ("join", 5, 0, 2, 4), ("quit", 6, 0, 2), ("meter", 0))
        self.assertEqual(found, [2, 6, 6, 2, 1, 0, 1, 4, 1, 0])

    def test_several_resets(self):
        found = run(("join", 1, 0, 1, 2), ("reset", 5), ("tick", 9), ("reset", 10), ("reset", 10), ("quit", 13, 0, 1),
                    ("meter", 0), ("means", 0))
        self.assertEqual(found[6], [0, 2, 6, 1, 1, 0, 3, 6, 0, 0])
        self.assertEqual(found[7], [2, 1, 3, 1, 3, 1])

    def test_every_meter_is_noted_anew(self):
        found = run(("join", 1, 0, 1, 2), ("join", 1, 255, 1, 3), ("raise", 1, 100, 4), ("reset", 6), ("tick", 7),
                    ("meter", 0), ("meter", 255), ("meter", 100))
        self.assertEqual(found[5], [2, 2, 2, 1, 0, 0, 0, 0, 1, 0])
        self.assertEqual(found[6], [3, 3, 3, 1, 0, 0, 0, 0, 1, 0])
        self.assertEqual(found[7], [4, 4, 4, 0, 0, 0, 0, 0, 0, 4])

    def test_a_refused_reset_notes_on(self):
        found = run(("join", 1, 0, 1, 2), ("tick", 4), ("reset", 3), ("reset", BIG + 1), ("quit", 6, 0, 1),
                    ("meter", 0))
        self.assertEqual(found[2:4], [[-3], [-1]])
        self.assertEqual(found[5], [0, 2, 10, 1, 1, 0, 5, 10, 0, 0])

    def test_a_reset_at_the_end_of_time(self):
        found = run(("join", 0, 0, 1, 2), ("reset", BIG), ("quit", BIG, 0, 1), ("meter", 0), ("means", 0))
        self.assertEqual(found[3:], [[0, 2, 0, 1, 1, 1, 0, 0, 0, 0], [0, 1, 0, 1, 0, 1]])


class TestOrderOfComing(unittest.TestCase):
    def order(self, *calls):
        book = Book()
        for call in calls:
            self.assertEqual(answer_of(book, PLACES[call[0]], list(call[1:])), [0])
        return [(name, units, since) for name, (units, since) in book.meters[0].guests.items()]

    def test_who_comes_is_the_last(self):
        found = self.order(("join", 1, 0, 9, 2), ("join", 2, 0, 4, 3), ("join", 2, 0, 7, 1), ("quit", 3, 0, 9),
                           ("join", 5, 0, 9, 8))
        self.assertEqual(found, [(4, 3, 2), (7, 1, 2), (9, 8, 5)])

    def test_the_order_stays_over_a_reset(self):
        found = self.order(("join", 1, 0, 9, 2), ("join", 2, 0, 4, 3), ("reset", 6), ("join", 8, 0, 1, 5))
        self.assertEqual(found, [(9, 2, 6), (4, 3, 6), (1, 5, 8)])


class TestNewBook(unittest.TestCase):
    def test_what_it_holds(self):
        book = Book()
        self.assertEqual((book.clock, book.reset_time), (0, 0))
        self.assertEqual((len(book.meters), len(book.tables), len(book.lines)), (256, 64, 64))
        self.assertEqual({meter.loose for meter in book.meters}, {0})
        self.assertEqual([meter.guests for meter in book.meters], [{}] * 256)
        self.assertEqual(book.tables, [None] * 64)


class TestTick(unittest.TestCase):
    def test_only_the_clock_is_changed(self):
        ahead = [("join", 1, 0, 1, 2), ("raise", 2, 0, 3)]
        before = last(*ahead, ("meter", 0))
        behind = last(*ahead, ("tick", 12), ("meter", 0))
        before[2] += 5 * 10
        self.assertEqual(behind, before)

    def test_the_time_of_the_reset_stays(self):
        self.assertEqual(last(("raise", 0, 0, 6), ("tick", 4), ("tick", 10), ("meter", 0))[2], 60)
        self.assertEqual(last(("raise", 5, 0, 6), ("tick", 10), ("means", 0))[:2], [3, 1])


class TestMeans(unittest.TestCase):
    def test_all_three_in_lowest_terms(self):
        found = last(("join", 2, 0, 1, 4), ("join", 2, 0, 2, 2), ("quit", 2, 0, 2), ("join", 2, 0, 3, 2),
                     ("quit", 6, 0, 3), ("quit", 8, 0, 1), ("tick", 12), ("means", 0))
        # The area is 6 * 4 + 4 * 2 = 32 of a time of 12; 0, 4 and 6 lasted 10 in all.
        self.assertEqual(found, [8, 3, 10, 3, 5, 1])

    def test_at_the_reset_the_time_is_0(self):
        self.assertEqual(last(("raise", 0, 0, 5), ("means", 0)), [0, 1, 0, 1, 0, 1])
        self.assertEqual(last(("raise", 0, 0, 5), ("reset", 7), ("means", 0)), [0, 1, 0, 1, 0, 1])

    def test_nobody_ended(self):
        self.assertEqual(last(("join", 0, 0, 1, 5), ("tick", 2), ("means", 0)), [5, 1, 0, 1, 0, 1])

    def test_all_ended_lasted_0(self):
        found = last(("join", 1, 0, 1, 5), ("quit", 1, 0, 1), ("tick", 2), ("means", 0))
        self.assertEqual(found, [0, 1, 0, 1, 0, 1])

    def test_a_sum_of_0_is_told_as_0_1(self):
        self.assertEqual(last(("tick", BIG), ("means", 3)), [0, 1, 0, 1, 0, 1])

    def test_the_time_is_that_since_the_reset(self):
        found = last(("raise", 0, 0, 3), ("reset", 90), ("raise", 94, 0, 3), ("tick", 100), ("means", 0))
        self.assertEqual(found, [24, 5, 0, 1, 0, 1])

    def test_great_numbers(self):
        found = last(("join", 1, 0, 1, BILLION), ("quit", BIG, 0, 1), ("means", 0))
        # 10^9 * (10^18 - 1) by 10^18: what they share is 10^9.
        self.assertEqual(found, [BIG - 1, BILLION, BIG - 1, 1, BIG - 1, 1])


if __name__ == "__main__":
    unittest.main()
