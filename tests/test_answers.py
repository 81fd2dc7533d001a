"""The interface: how calls are read, answers written, and what is left alone."""

import builtins
import random
import sys
import unittest
from unittest import mock

import meterbookdesk
import meterbookdesk.book
from meterbookdesk.book import answers
from tests.helper import BIG, flat, run


class Untouched(list):
    """A list that can't be changed, not for a while either."""

    def refuse(self, *args, **kwargs):
        raise RuntimeError("the handed-in list is changed")

    append = clear = extend = insert = pop = remove = reverse = sort = refuse
    __setitem__ = __delitem__ = __iadd__ = __imul__ = refuse


MIXED = [
    ("join", 1, 3, 10, 5), ("raise", 4, 3, 2), ("define", 0, 2, 1, 2, 1, 3), ("tally", 0, 4, 1, 2),
    ("set", 5, 6, -1, 3), ("quit", 6, 3, 10), ("lower", 7, 3, 1), ("define", 1, 2, 2, 4, 2, 6),
    ("merge", 1, 0), ("join", 2, 3, 10, 5), ("join", 7, 3, 11, 4), ("meter", 3), ("means", 3), ("levels", 3),
    ("inside", 3), ("busy", 3), ("table", 1), ("classes", 1), ("quantile", 1, 1, 2), ("below", 1, 1, 1),
    ("value", 6), ("above", 6, -1, 2), ("clock",), ("live",), ("reset", 8), ("tick", 10), ("quantile", 1, 1, 2),
    ("meter", 3), ("inside", 3), ("value", 6), ("clear",), ("clock",), ("table", 1),
]


class TestReading(unittest.TestCase):
    def test_each_call_alone_on_a_new_book(self):
        self.assertEqual(answers([0, 1, 2, 3, 4]), [1, 0])
        self.assertEqual(answers([1, 1, 2, 3]), [1, -4])
        self.assertEqual(answers([2, 1, 2, 3]), [1, 0])
        self.assertEqual(answers([3, 1, 2, 3]), [1, -6])
        self.assertEqual(answers([4, 1, 2, 3, 4, 5, 6]), [1, 0])
        self.assertEqual(answers([5, 1, 2, 3, 4]), [1, -8])
        self.assertEqual(answers([6, 1, 2, 3, 4]), [1, 0])
        self.assertEqual(answers([7, 1]), [1, 0])
        self.assertEqual(answers([8, 1]), [1, 0])
        self.assertEqual(answers([9, 1, 2]), [1, -8])
        self.assertEqual(answers([10, 1]), [10, 0, 0, 0, 0, 0, 0, 0, 0, 0, 0])
        self.assertEqual(answers([11, 1]), [6, 0, 1, 0, 1, 0, 1])
        self.assertEqual(answers([12, 1]), [1, 0])
        self.assertEqual(answers([13, 1]), [1, 0])
        self.assertEqual(answers([14, 1]), [3, 0, 0, 0])
        self.assertEqual(answers([15, 1]), [1, -8])
        self.assertEqual(answers([16, 1]), [1, -8])
        self.assertEqual(answers([17, 1, 2, 3]), [1, -8])
        self.assertEqual(answers([18, 1, 2, 3]), [1, -8])
        self.assertEqual(answers([19, 1]), [9, 0, 1, 0, 1, 0, 1, 0, 0, 1])
        self.assertEqual(answers([20, 1, 2, 3]), [1, 0])
        self.assertEqual(answers([21]), [2, 0, 0])
        self.assertEqual(answers([22]), [1, 0])
        self.assertEqual(answers([23]), [1, 0])

    def test_what_is_told_has_no_0_ahead_and_no_further_counts(self):
        ahead = [0, 5, 1, 7, 3, 4, 2, 1, 0, 1, 1, 1, 5, 2, 6, 1, 2, 6, 5, 3, 3, 2, 8, 9]
        done = [1, 0] * 5
        for asked, told in (
            ([12, 1], [5, 2, 0, 5, 3, 4]), ([13, 1], [4, 1, 7, 3, 5]), ([14, 1], [3, 1, 4, 4]),
            ([15, 2], [14, 1, 6, 3, 1, 3, 2, 1, 2, 1, 2, 1, 2, 0, 1]), ([16, 2], [4, 3, 0, 6, 0]),
            ([17, 2, 1, 1], [2, 1, 2]), ([18, 2, 1, 1], [2, 6, 0]), ([19, 3], [9, 3, 2, 0, 1, 3, 2, 6000, 2, 3]),
            ([20, 3, 1, 1], [1, 4]), ([21], [2, 9, 0]), ([22], [2, 1, 1]), ([23], [1, 0]),
        ):
            with self.subTest(asked=asked):
                self.assertEqual(answers(ahead + asked + [8, 9]), done + told + [1, 0])

    def test_several_calls_one_behind_another(self):
        self.assertEqual(
            answers([0, 5, 1, 7, 3, 0, 5, 1, 7, 3, 8, 9, 10, 1, 11, 1]),
            [1, 0, 1, -4, 1, 0, 10, 3, 3, 12, 1, 0, 0, 0, 0, 1, 0, 6, 4, 3, 0, 1, 0, 1],
        )

    def test_refused_calls_are_read_to_their_end(self):
        for call in ([0, -1, 10, 10, 10], [1, -1, 10, 10], [2, -1, 10, 10], [3, -1, 10, 10],
                     [4, -1, 10, 10, 10, 10, 10], [5, -1, 10, 10, 10], [6, -1, 10, 10, 10],
                     [7, -1], [8, -1], [9, -1, 10], [10, -1], [11, -1], [12, -1], [13, -1], [14, -1], [15, -1],
                     [16, -1], [17, -1, 10, 10], [18, -1, 10, 10], [19, -1], [20, -1, 10, 10]):
            with self.subTest(call=call):
                self.assertEqual(answers(call + [7, 3] + call), [1, -1, 1, 0, 1, -1])

    def test_four_hundred_calls(self):
        calls = [("join", number, 255, number + 1, 2) for number in range(300)]
        calls += [("quit", 300 + number, 255, number + 1) for number in range(98)]
        calls += [("meter", 255), ("means", 255)]
        found = run(*calls)
        self.assertEqual(found[:398], [[0]] * 398)
        # Content 2, 4 .. 600 for a time of 1 each, then 598 down for a time of 1 each up to the clock 397.
        area = sum(range(2, 601, 2)) + sum(range(598, 598 - 2 * 97, -2))
        self.assertEqual(found[398], [404, 600, area, 300, 98, 0, 98 * 300, 2 * 98 * 300, 202, 0])
        self.assertEqual(found[399][2:], [300, 1, 300, 1])

    def test_the_kinds_that_are_given_back(self):
        answered = answers(flat(MIXED))
        self.assertIs(type(answered), list)
        self.assertEqual({type(number) for number in answered}, {int})


class TestLeavingAlone(unittest.TestCase):
    def test_what_is_handed_in_stays_the_same(self):
        handed = flat(MIXED)
        before = list(handed)
        answers(handed)
        self.assertEqual(handed, before)

    def test_what_is_handed_in_is_not_changed_for_a_while(self):
        handed = Untouched(flat(MIXED))
        self.assertEqual(answers(handed), answers(flat(MIXED)))

    def test_what_is_given_back_is_not_what_was_handed_in(self):
        handed = flat([("tick", 1)])
        first = answers(handed)
        first.append(5)
        self.assertEqual(handed, [8, 1])
        self.assertEqual(answers(handed), [1, 0])

    def test_nothing_is_kept_from_one_time_to_the_next(self):
        first = answers(flat(MIXED))
        answers(flat([("tick", BIG), ("join", BIG, 3, 10, 1), ("define", 0, 1, 1, 1, 1, 1)]))
        self.assertEqual(answers(flat(MIXED)), first)
        self.assertEqual(answers([5, 0, 1, 1, 1]), [1, -8])

    def test_it_prints_reads_and_imports_nothing(self):
        handed = flat(MIXED)
        expected = answers(handed)
        touched = RuntimeError("nothing is printed, read or imported")
        with mock.patch.object(builtins, "print", side_effect=touched), \
                mock.patch.object(builtins, "open", side_effect=touched), \
                mock.patch.object(builtins, "input", side_effect=touched), \
                mock.patch.object(sys, "stdout", None), \
                mock.patch.object(sys, "stdin", None), \
                mock.patch.object(builtins, "__import__", side_effect=touched):
            found = answers(handed)
        self.assertEqual(found, expected)

    def test_no_random_source_is_drawn_from(self):
        random.seed(7)
        before = random.getstate()
        answers(flat(MIXED))
        self.assertEqual(random.getstate(), before)


class TestLoops(unittest.TestCase):
    def test_long_lists_need_no_deep_recursion(self):
        calls = [("join", number, 0, number + 1, 1) for number in range(300)]
        calls += [("set", 300, 0, number, 7) for number in range(50)]
        calls += [("define", 0, 100, 0, 1, 1, 1)] + [("tally", 0, 1, number, 7) for number in range(30)]
        calls += [("value", 0), ("above", 0, 1, 1), ("levels", 0), ("busy", 0), ("inside", 0), ("table", 0)]
        calls += [("classes", 0), ("quantile", 0, 1, 1), ("below", 0, 1, 1), ("reset", 300), ("live",), ("clear",)]
        handed = flat(calls)
        depth = 0
        frame = sys._getframe()
        while frame is not None:
            depth += 1
            frame = frame.f_back
        limit = sys.getrecursionlimit()
        sys.setrecursionlimit(depth + 50)
        try:
            answered = answers(handed)
        finally:
            sys.setrecursionlimit(limit)
        told = [9, 1, 1 + 2 * 300, 3, 1 + 3 * 300, 14, 103, 2, 2, 1, 2, 1]
        self.assertEqual(len(answered), 2 * 381 + sum(told) + len(told))


class TestPackage(unittest.TestCase):
    def test_the_names_of_the_interface(self):
        self.assertEqual(meterbookdesk.__name__, "meterbookdesk")
        self.assertIs(meterbookdesk.book.answers, answers)
        self.assertEqual(answers(calls=[8, 0]), [1, 0])


if __name__ == "__main__":
    unittest.main()
