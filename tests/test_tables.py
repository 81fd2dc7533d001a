"""define, tally, merge and set: their refusals, and what they note in the book."""

import unittest

from meterbookdesk.book import answer_of
from meterbookdesk.state import Book
from tests.helper import BIG, BILLION, PLACES, last, run


def book_after(*calls):
    """A book on which these calls were done, and their answers."""
    book = Book()
    found = [answer_of(book, PLACES[call[0]], list(call[1:])) for call in calls]
    return book, found


class TestTally(unittest.TestCase):
    AHEAD = ("define", 3, 10, 0, 1, 1, 1)

    def test_an_undefined_table(self):
        self.assertEqual(last(("tally", 3, 1, 1, 1)), [-8])
        self.assertEqual(last(self.AHEAD, ("tally", 4, 1, 1, 1)), [-8])
        self.assertEqual(last(self.AHEAD, ("tally", 3, 1, 1, 1)), [0])

    def test_denominators_that_are_too_fine(self):
        for num, den, answer in (
            (1, 1000, 0), (1, 1001, -7), (-1, 1000, 0), (-1, 1001, -7), (7, 1001, 0), (2, 2002, -7),
            (2000, 4000, 0), (1, BIG, -7), (BIG, BIG, 0), (0, BIG, 0), (BIG, 1, 0), (-BIG, 1, 0),
            (BIG, BIG - 1, -7), (BIG // 1000, BIG, 0), (-BIG // 1000, BIG, 0), (BIG // 1000 - 1, BIG, -7),
        ):
            with self.subTest(num=num, den=den):
                self.assertEqual(last(self.AHEAD, ("tally", 3, 1, num, den)), [answer])

    def test_what_is_noted(self):
        book, found = book_after(self.AHEAD, ("tally", 3, 5, 2000, 4000), ("tally", 3, BILLION, -6, 4),
                                 ("tally", 3, 1, 1, 1001), ("tally", 3, 5, 1, 2), ("tally", 3, 2, 0, 9))
        self.assertEqual(found, [[0], [0], [0], [-7], [0], [0]])
        self.assertEqual(book.tables[3].tallies, [(5, (1, 2)), (BILLION, (-3, 2)), (5, (1, 2)), (2, (0, 1))])

    def test_a_reset_leaves_tables_defined_with_no_tallies(self):
        book, found = book_after(self.AHEAD, ("define", 0, 3, -4, 6, 3, 9), ("tally", 3, 5, 1, 2), ("reset", 4),
                                 ("tally", 0, 2, 1, 1), ("tally", 5, 2, 1, 1))
        self.assertEqual(found[3:], [[0], [0], [-8]])
        self.assertEqual(book.tables[3].tallies, [])
        self.assertEqual(book.tables[0].tallies, [(2, (1, 1))])
        table = book.tables[0]
        self.assertEqual((table.class_count, table.first_bound, table.width), (3, (-2, 3), (1, 3)))

    def test_a_refused_reset_keeps_the_tallies(self):
        book, found = book_after(self.AHEAD, ("tally", 3, 5, 1, 2), ("tick", 9), ("reset", 8))
        self.assertEqual(found[3], [-3])
        self.assertEqual(book.tables[3].tallies, [(5, (1, 2))])


class TestDefine(unittest.TestCase):
    def test_what_is_noted(self):
        book, found = book_after(("define", 63, 100, -10, 4, 6, 9))
        table = book.tables[63]
        self.assertEqual(found, [[0]])
        self.assertEqual((table.class_count, table.first_bound, table.width), (100, (-5, 2), (2, 3)))
        self.assertEqual(table.tallies, [])
        self.assertEqual([other for other in book.tables[:63] if other is not None], [])

    def test_a_table_that_is_defined_again_has_no_tallies(self):
        book, found = book_after(("define", 1, 2, 0, 1, 1, 1), ("tally", 1, 5, 1, 2), ("define", 1, 2, 0, 1, 1, 1))
        self.assertEqual(book.tables[1].tallies, [])

    def test_a_table_that_is_defined_again_has_its_new_classes(self):
        like = ("define", 0, 5, 1, 2, 3, 4)
        found = run(like, ("define", 1, 2, 0, 1, 1, 1), ("merge", 0, 1), ("define", 1, 5, 1, 2, 3, 4), ("merge", 0, 1))
        self.assertEqual(found[2:], [[-8], [0], [0]])


class TestMerge(unittest.TestCase):
    def test_a_table_with_itself(self):
        self.assertEqual(last(("merge", 0, 0)), [-4])
        self.assertEqual(last(("merge", 63, 63)), [-4])
        self.assertEqual(last(("define", 7, 1, 0, 1, 1, 1), ("merge", 7, 7)), [-4])

    def test_a_table_with_itself_keeps_its_tallies(self):
        book, _ = book_after(("define", 7, 1, 0, 1, 1, 1), ("tally", 7, 2, 3, 1), ("merge", 7, 7))
        self.assertEqual(book.tables[7].tallies, [(2, (3, 1))])

    def test_undefined_tables(self):
        define = ("define", 7, 1, 0, 1, 1, 1)
        self.assertEqual(last(("merge", 7, 8)), [-8])
        self.assertEqual(last(define, ("merge", 7, 8)), [-8])
        self.assertEqual(last(define, ("merge", 8, 7)), [-8])

    def test_unlike_tables(self):
        define = ("define", 7, 4, 1, 2, 3, 4)
        for other in ((5, 1, 2, 3, 4), (4, 1, 3, 3, 4), (4, -1, 2, 3, 4), (4, 2, 2, 3, 4), (4, 1, 2, 3, 5),
                      (4, 1, 2, 1, 4), (4, BIG, BIG - 1, 3, 4), (4, 1, 2, BIG, BIG - 1)):
            with self.subTest(other=other):
                self.assertEqual(last(define, ("define", 8, *other), ("merge", 7, 8)), [-8])
                self.assertEqual(last(define, ("define", 8, *other), ("merge", 8, 7)), [-8])

    def test_nearly_equal_fractions_are_unlike(self):
        for first, second in (((BIG, BIG - 1), (BIG - 1, BIG - 2)), ((1, BIG), (1, BIG - 1))):
            found = run(("define", 0, 1, *first, 1, 1), ("define", 1, 1, *second, 1, 1), ("merge", 0, 1),
                        ("define", 0, 1, 1, 1, *first), ("define", 1, 1, 1, 1, *second), ("merge", 0, 1))
            self.assertEqual([found[2], found[5]], [[-8], [-8]])

    def test_fractions_are_equal_by_their_worth(self):
        define = ("define", 7, 4, -1, 2, 3, 4)
        for other in ((4, -1, 2, 3, 4), (4, -2, 4, 6, 8), (4, -BIG // 2, BIG, 3 * BIG // 4, BIG)):
            with self.subTest(other=other):
                self.assertEqual(last(define, ("define", 8, *other), ("merge", 7, 8)), [0])
        found = last(("define", 7, 4, 0, 1, BIG, 1), ("define", 8, 4, 0, BIG, BIG, 1), ("merge", 7, 8))
        self.assertEqual(found, [0])

    def test_what_is_noted(self):
        book, found = book_after(
            ("define", 7, 1, 0, 1, 1, 1), ("define", 8, 1, 0, 1, 2, 2), ("tally", 7, 1, 1, 1), ("tally", 8, 2, 2, 1),
            ("tally", 8, 3, 3, 1), ("merge", 7, 8), ("tally", 8, 4, 4, 1),
        )
        self.assertEqual(found, [[0]] * 7)
        self.assertEqual(book.tables[7].tallies, [(1, (1, 1)), (2, (2, 1)), (3, (3, 1))])
        self.assertEqual(book.tables[8].tallies, [(4, (4, 1))])

    def test_merged_tables_stay_defined_and_apart(self):
        book, found = book_after(
            ("define", 7, 1, 0, 1, 1, 1), ("define", 8, 1, 0, 1, 1, 1), ("tally", 8, 2, 2, 1), ("merge", 7, 8),
            ("merge", 7, 8), ("tally", 7, 5, 5, 1), ("merge", 8, 7),
        )
        self.assertEqual(found, [[0]] * 7)
        self.assertEqual(book.tables[7].tallies, [])
        self.assertEqual(book.tables[8].tallies, [(2, (2, 1)), (5, (5, 1))])

    def test_a_refused_merge_changes_nothing(self):
        book, found = book_after(
            ("define", 7, 1, 0, 1, 1, 1), ("define", 8, 2, 0, 1, 1, 1), ("tally", 7, 1, 1, 1), ("tally", 8, 2, 2, 1),
            ("merge", 7, 8), ("merge", 7, 9),
        )
        self.assertEqual(found[4:], [[-8], [-8]])
        self.assertEqual(book.tables[7].tallies, [(1, (1, 1))])
        self.assertEqual(book.tables[8].tallies, [(2, (2, 1))])
        self.assertIsNone(book.tables[9])


class TestSet(unittest.TestCase):
    def test_values_of_a_new_book(self):
        book = Book()
        self.assertEqual(book.lines, [[(0, (0, 1))]] * 64)

    def test_what_is_noted(self):
        book, found = book_after(("set", 0, 5, 6, 4), ("set", 3, 5, -2, 6), ("set", 2, 5, 1, 1), ("set", 3, 5, 0, 8),
                                 ("set", 3, 63, BIG, BIG - 1))
        self.assertEqual(found, [[0], [0], [-3], [0], [0]])
        self.assertEqual(book.lines[5], [(0, (0, 1)), (0, (3, 2)), (3, (-1, 3)), (3, (0, 1))])
        self.assertEqual(book.lines[63], [(0, (0, 1)), (3, (BIG, BIG - 1))])
        self.assertEqual(book.lines[4], [(0, (0, 1))])

    def test_set_is_no_change_of_a_meter(self):
        self.assertEqual(last(("set", 7, 0, 5, 1), ("meter", 0)), [0] * 10)

    def test_values_stay_over_a_reset(self):
        book, found = book_after(("set", 1, 5, 6, 4), ("set", 3, 5, -2, 6), ("reset", 9), ("set", 10, 5, 7, 1))
        self.assertEqual(found, [[0]] * 4)
        self.assertEqual(book.lines[5], [(9, (-1, 3)), (10, (7, 1))])
        self.assertEqual(book.lines[6], [(9, (0, 1))])
        self.assertEqual((book.clock, book.reset_time), (10, 9))

    def test_a_refused_set_changes_nothing(self):
        book, found = book_after(("set", 1, 5, 6, 0), ("set", 1, 64, 6, 1), ("set", BIG + 1, 5, 6, 1))
        self.assertEqual(found, [[-1]] * 3)
        self.assertEqual(book.lines, [[(0, (0, 1))]] * 64)
        self.assertEqual(book.clock, 0)


if __name__ == "__main__":
    unittest.main()
