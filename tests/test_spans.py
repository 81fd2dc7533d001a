"""levels, inside, busy, clock and live: what is told of spans, of who is in, and of the book."""

import unittest

from tests.helper import BIG, BILLION, last, run


class TestLevels(unittest.TestCase):
    def test_contents_rise_whatever_the_order_they_came_in(self):
        found = last(("raise", 2, 7, 10), ("lower", 5, 7, 7), ("join", 9, 7, 1, 2), ("tick", 10), ("levels", 7))
        self.assertEqual(found, [4, 0, 2, 3, 4, 5, 1, 10, 3])

    def test_a_content_that_comes_back_is_told_once(self):
        found = last(("raise", 2, 0, 4), ("lower", 3, 0, 4), ("join", 7, 0, 1, 4), ("quit", 10, 0, 1), ("tick", 30),
                     ("levels", 0))
        self.assertEqual(found, [2, 0, 2 + 4 + 20, 4, 1 + 3])

    def test_a_content_made_up_otherwise_is_the_same(self):
        found = last(("join", 0, 0, 1, 3), ("raise", 2, 0, 2), ("quit", 2, 0, 1), ("raise", 2, 0, 1), ("tick", 7),
                     ("levels", 0))
        self.assertEqual(found, [1, 3, 7])

    def test_contents_that_lasted_0_in_all_are_not_told(self):
        found = last(("raise", 3, 0, 5), ("raise", 3, 0, 6), ("lower", 3, 0, 10), ("tick", 4), ("levels", 0))
        self.assertEqual(found, [2, 0, 3, 1, 1])

    def test_a_content_that_lasted_0_once_and_more_later(self):
        found = last(("raise", 3, 0, 5), ("lower", 3, 0, 5), ("raise", 4, 0, 5), ("tick", 9), ("levels", 0))
        self.assertEqual(found, [2, 0, 4, 5, 5])

    def test_the_content_behind_the_last_change_lasts_up_to_the_clock(self):
        self.assertEqual(last(("raise", 3, 0, 5), ("levels", 0)), [1, 0, 3])
        self.assertEqual(last(("raise", 3, 0, 5), ("tick", 4), ("levels", 0)), [2, 0, 3, 5, 1])

    def test_a_change_at_time_0_leaves_no_time_for_content_0(self):
        self.assertEqual(last(("raise", 0, 0, 5), ("tick", 4), ("levels", 0)), [1, 5, 4])

    def test_content_0_alone(self):
        self.assertEqual(last(("tick", 4), ("levels", 0)), [1, 0, 4])
        self.assertEqual(last(("tick", BIG), ("levels", 255)), [1, 0, BIG])

    def test_meters_are_apart(self):
        found = run(("raise", 1, 3, 5), ("raise", 2, 4, 6), ("tick", 3), ("levels", 3), ("levels", 4))
        self.assertEqual(found[3:], [[2, 0, 1, 5, 2], [2, 0, 2, 6, 1]])

    def test_only_what_was_since_the_reset(self):
        found = last(("raise", 1, 0, 5), ("raise", 4, 0, 2), ("reset", 6), ("lower", 8, 0, 7), ("tick", 11),
                     ("levels", 0))
        self.assertEqual(found, [2, 0, 3, 7, 2])

    def test_a_refused_call_is_no_moment(self):
        found = last(("raise", 1, 0, 5), ("lower", 2, 0, 6), ("raise", 0, 0, 9), ("quit", 2, 0, 1), ("tick", 3),
                     ("levels", 0))
        self.assertEqual(found, [2, 0, 1, 5, 2])

    def test_many_contents(self):
        calls = [("raise", number, 0, BILLION) for number in range(398)]
        found = last(*calls, ("tick", BIG), ("levels", 0))
        self.assertEqual(found[0], 398)
        self.assertEqual(found[1::2], [BILLION * number for number in range(1, 399)])
        self.assertEqual(found[2::2], [1] * 397 + [BIG - 397])


class TestInside(unittest.TestCase):
    def test_in_order_of_coming(self):
        found = last(("join", 1, 5, 9, 2), ("join", 2, 5, 4, 3), ("join", 2, 5, 7, 1), ("tick", 8), ("inside", 5))
        self.assertEqual(found, [3, 9, 2, 1, 4, 3, 2, 7, 1, 2])

    def test_who_comes_again_is_the_last(self):
        found = last(("join", 1, 5, 9, 2), ("join", 2, 5, 4, 3), ("quit", 3, 5, 9), ("join", 5, 5, 9, 8), ("inside", 5))
        self.assertEqual(found, [2, 4, 3, 2, 9, 8, 5])

    def test_who_went_is_not_told(self):
        found = run(("join", 1, 5, 9, 2), ("join", 1, 5, 8, 2), ("quit", 1, 5, 9), ("inside", 5), ("quit", 1, 5, 8),
                    ("inside", 5))
        self.assertEqual([found[3], found[5]], [[1, 8, 2, 1], [0]])

    def test_loose_units_are_nobody(self):
        self.assertEqual(last(("raise", 1, 5, 9), ("inside", 5)), [0])

    def test_meters_are_apart(self):
        found = run(("join", 1, 5, 9, 2), ("join", 2, 6, 9, 3), ("inside", 5), ("inside", 6), ("inside", 7))
        self.assertEqual(found[2:], [[1, 9, 2, 1], [1, 9, 3, 2], [0]])

    def test_all_since_the_reset_in_their_order(self):
        found = last(("join", 1, 5, 9, 2), ("join", 2, 5, 4, 3), ("raise", 2, 5, 1), ("reset", 6), ("join", 8, 5, 1, 5),
                     ("inside", 5))
        self.assertEqual(found, [3, 9, 2, 6, 4, 3, 6, 1, 5, 8])

    def test_a_refused_join_changes_nobody(self):
        found = last(("join", 1, 5, 9, 2), ("join", 2, 5, 4, 3), ("join", 3, 5, 9, 7), ("inside", 5))
        self.assertEqual(found, [2, 9, 2, 1, 4, 3, 2])

    def test_300_who_are_in(self):
        calls = [("join", number, 5, BILLION - number, number + 1) for number in range(300)]
        found = last(*calls, ("inside", 5))
        self.assertEqual(found[0], 300)
        self.assertEqual(found[1::3], [BILLION - number for number in range(300)])
        self.assertEqual(found[2::3], list(range(1, 301)))
        self.assertEqual(found[3::3], list(range(300)))


class TestBusy(unittest.TestCase):
    def test_several_spells(self):
        found = last(("join", 2, 0, 1, 5), ("quit", 5, 0, 1), ("raise", 7, 0, 1), ("lower", 12, 0, 1),
                     ("join", 20, 0, 1, 5), ("tick", 24), ("busy", 0))
        self.assertEqual(found, [3, 5, 3 + 5 + 4])

    def test_changes_within_a_spell_do_not_end_it(self):
        found = last(("join", 2, 0, 1, 5), ("raise", 4, 0, 1), ("quit", 5, 0, 1), ("raise", 9, 0, 3),
                     ("lower", 11, 0, 4), ("tick", 20), ("busy", 0))
        self.assertEqual(found, [1, 9, 9])

    def test_changes_within_a_later_spell_count_for_it(self):
        found = last(("raise", 2, 0, 5), ("lower", 5, 0, 5), ("raise", 7, 0, 1), ("raise", 9, 0, 1),
                     ("lower", 11, 0, 1), ("tick", 12), ("busy", 0))
        self.assertEqual(found, [2, 5, 8])

    def test_the_longest_is_the_first_the_last_or_between(self):
        for lengths in ((9, 2, 3), (2, 9, 3), (2, 3, 9)):
            calls = []
            for number, length in enumerate(lengths):
                calls += [("raise", 10 * number + 1, 0, 1), ("lower", 10 * number + 1 + length, 0, 1)]
            with self.subTest(lengths=lengths):
                self.assertEqual(last(*calls, ("tick", 40), ("busy", 0)), [3, 9, 14])

    def test_a_content_of_0_for_a_time_of_0_ends_a_spell(self):
        found = last(("raise", 2, 0, 5), ("lower", 6, 0, 5), ("raise", 6, 0, 5), ("tick", 9), ("busy", 0))
        self.assertEqual(found, [2, 4, 7])

    def test_a_change_without_content_0_between_ends_none(self):
        found = last(("raise", 2, 0, 5), ("raise", 6, 0, 1), ("lower", 6, 0, 5), ("tick", 9), ("busy", 0))
        self.assertEqual(found, [1, 7, 7])

    def test_a_spell_may_last_0(self):
        found = run(("join", 3, 0, 1, 5), ("busy", 0), ("quit", 3, 0, 1), ("busy", 0), ("tick", 9), ("busy", 0))
        self.assertEqual([found[1], found[3], found[5]], [[1, 0, 0], [1, 0, 0], [1, 0, 0]])

    def test_several_spells_that_last_0_at_one_time(self):
        calls = [("raise", 3, 0, 5), ("lower", 3, 0, 5)] * 3
        self.assertEqual(last(*calls, ("tick", 4), ("busy", 0)), [3, 0, 0])
        self.assertEqual(last(*calls, ("raise", 3, 0, 1), ("tick", 4), ("busy", 0)), [4, 1, 1])

    def test_no_spell(self):
        self.assertEqual(last(("busy", 0)), [0, 0, 0])
        self.assertEqual(last(("tick", 9), ("busy", 0)), [0, 0, 0])
        self.assertEqual(last(("raise", 1, 1, 1), ("tick", 9), ("busy", 0)), [0, 0, 0])

    def test_busy_from_time_0_on(self):
        self.assertEqual(last(("raise", 0, 0, 1), ("tick", BIG), ("busy", 0)), [1, BIG, BIG])

    def test_a_content_at_the_reset_begins_a_spell(self):
        found = run(("raise", 1, 0, 1), ("reset", 5), ("busy", 0), ("tick", 8), ("busy", 0), ("lower", 9, 0, 1),
                    ("raise", 20, 0, 1), ("tick", 22), ("busy", 0))
        self.assertEqual([found[2], found[4], found[8]], [[1, 0, 0], [1, 3, 3], [2, 4, 6]])

    def test_spells_from_before_the_reset_do_not_count(self):
        found = last(("raise", 1, 0, 1), ("lower", 4, 0, 1), ("reset", 5), ("tick", 8), ("busy", 0))
        self.assertEqual(found, [0, 0, 0])

    def test_a_quit_at_the_time_of_the_reset(self):
        found = last(("join", 1, 0, 1, 1), ("reset", 5), ("quit", 5, 0, 1), ("tick", 8), ("busy", 0))
        self.assertEqual(found, [1, 0, 0])


class TestClock(unittest.TestCase):
    def test_each_call_with_a_time(self):
        found = run(("clock",), ("join", 1, 0, 1, 1), ("clock",), ("quit", 2, 0, 1), ("clock",), ("raise", 3, 0, 1),
                    ("clock",), ("lower", 4, 0, 1), ("clock",), ("set", 5, 0, 1, 1), ("clock",), ("reset", 6),
                    ("clock",), ("tick", 7), ("clock",), ("reset", BIG), ("clock",))
        self.assertEqual(found[::2], [[0, 0], [1, 0], [2, 0], [3, 0], [4, 0], [5, 0], [6, 6], [7, 6], [BIG, BIG]])

    def test_refused_calls(self):
        found = run(("reset", 5), ("tick", 9), ("reset", 8), ("tick", BIG + 1), ("quit", 10, 0, 1), ("lower", 10, 0, 1),
                    ("raise", 10, 256, 1), ("clock",))
        self.assertEqual(found[2:], [[-3], [-1], [-4], [-6], [-1], [9, 5]])


class TestLive(unittest.TestCase):
    def test_meters_in_rising_order(self):
        found = last(("raise", 1, 255, 1), ("join", 1, 7, 1, 1), ("raise", 1, 0, 1), ("join", 2, 100, 1, 1), ("live",))
        self.assertEqual(found, [4, 0, 7, 100, 255])

    def test_a_change_since_the_reset_is_enough(self):
        found = last(("join", 1, 7, 1, 1), ("quit", 1, 7, 1), ("raise", 1, 8, 1), ("lower", 1, 8, 1), ("live",))
        self.assertEqual(found, [2, 7, 8])

    def test_a_change_before_the_reset_is_not(self):
        found = last(("join", 1, 7, 1, 1), ("quit", 1, 7, 1), ("raise", 1, 8, 1), ("lower", 1, 8, 1), ("reset", 1),
                     ("live",))
        self.assertEqual(found, [0])

    def test_who_is_in_or_loose_stays_over_a_reset(self):
        found = run(("join", 1, 7, 1, 1), ("raise", 1, 8, 1), ("reset", 1), ("live",), ("quit", 2, 7, 1),
                    ("lower", 2, 8, 1), ("live",), ("reset", 2), ("live",))
        self.assertEqual([found[3], found[6], found[8]], [[2, 7, 8], [2, 7, 8], [0]])

    def test_refused_calls_and_others_are_no_change_of_a_meter(self):
        found = last(("quit", 1, 7, 1), ("lower", 1, 8, 1), ("join", 1, 9, 0, 1), ("set", 1, 3, 1, 1),
                     ("define", 4, 1, 0, 1, 1, 1), ("tally", 4, 1, 1, 1), ("meter", 5), ("tick", 9), ("live",))
        self.assertEqual(found, [0])

    def test_all_meters(self):
        calls = [("raise", 1, number, 1) for number in range(255, -1, -1)]
        self.assertEqual(last(*calls, ("live",)), [256] + list(range(256)))


if __name__ == "__main__":
    unittest.main()
