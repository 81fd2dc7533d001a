"""value and above: what is told of a value's line."""

import unittest

from tests.helper import BIG, last, run


class TestValue(unittest.TestCase):
    def test_all_nine_numbers(self):
        found = last(("set", 2, 5, 3, 2), ("set", 6, 5, -10, 4), ("set", 7, 5, 1, 3), ("tick", 10), ("value", 5))
        # 0 for 2, 1500 for 4, -2500 for 1, 333 for 3.
        self.assertEqual(found, [1, 3, -5, 2, 3, 2, 4499, 4499, 10000])

    def test_a_value_that_was_not_set(self):
        self.assertEqual(last(("tick", 9), ("value", 63)), [0, 1, 0, 1, 0, 1, 0, 0, 1])

    def test_a_member_below_0_is_taken_down(self):
        self.assertEqual(last(("set", 0, 0, -1, 3), ("tick", 4), ("value", 0))[6:], [-1336, -167, 500])
        self.assertEqual(last(("set", 0, 0, -1, BIG), ("tick", 1), ("value", 0))[6:], [-1, -1, 1000])
        self.assertEqual(last(("set", 0, 0, -1, 1000), ("tick", 1), ("value", 0))[6:], [-1, -1, 1000])
        self.assertEqual(last(("set", 0, 0, -1001, 1000000), ("tick", 3), ("value", 0))[6:], [-6, -1, 500])
        self.assertEqual(last(("set", 0, 0, -2, 3), ("tick", 3), ("value", 0))[6:], [-2001, -667, 1000])

    def test_a_member_above_0_is_taken_down(self):
        self.assertEqual(last(("set", 0, 0, 1, 3), ("tick", 4), ("value", 0))[6:], [1332, 333, 1000])
        self.assertEqual(last(("set", 0, 0, 2, 3), ("tick", 3), ("value", 0))[6:], [1998, 333, 500])
        self.assertEqual(last(("set", 0, 0, 999, 1000000), ("tick", BIG), ("value", 0))[6:], [0, 0, 1])

    def test_each_member_is_taken_down_for_itself(self):
        found = last(("set", 0, 0, 2, 3), ("set", 1, 0, 2, 3), ("set", 2, 0, -2, 3), ("tick", 3), ("value", 0))
        self.assertEqual(found[6:], [666 + 666 - 667, 133, 600])

    def test_members_of_a_time_of_0_count_for_least_and_greatest(self):
        found = last(("set", 3, 0, 50, 1), ("set", 3, 0, -70, 1), ("set", 3, 0, 1, 1), ("tick", 5), ("value", 0))
        self.assertEqual(found, [1, 1, -70, 1, 50, 1, 2000, 2, 5])

    def test_the_first_member_is_what_it_was_at_the_reset(self):
        found = last(("set", 0, 0, 7, 1), ("tick", 5), ("value", 0))
        self.assertEqual(found, [7, 1, 0, 1, 7, 1, 35000, 7, 1])
        found = last(("set", 0, 0, -7, 1), ("tick", 5), ("value", 0))
        self.assertEqual(found, [-7, 1, -7, 1, 0, 1, -35000, -7, 1])

    def test_at_the_moment_of_a_set(self):
        self.assertEqual(last(("set", 0, 0, 7, 2), ("value", 0)), [7, 2, 0, 1, 7, 2, 0, 0, 1])
        self.assertEqual(last(("set", 3, 0, 7, 2), ("value", 0)), [7, 2, 0, 1, 7, 2, 0, 0, 1])

    def test_equal_members_told_by_other_numbers(self):
        found = last(("set", 0, 0, 10, 20), ("set", 1, 0, BIG // 2, BIG), ("tick", 2), ("value", 0))
        self.assertEqual(found, [1, 2, 0, 1, 1, 2, 1000, 1, 2])

    def test_least_and_greatest_by_worth(self):
        found = last(("set", 0, 0, BIG, BIG - 1), ("set", 0, 0, BIG - 1, BIG - 2), ("set", 0, 0, 1, 1), ("value", 0))
        self.assertEqual(found[:6], [1, 1, 0, 1, BIG - 1, BIG - 2])
        found = last(("set", 0, 0, -BIG, BIG - 1), ("set", 0, 0, -BIG + 1, BIG - 2), ("set", 0, 0, -1, 1), ("value", 0))
        self.assertEqual(found[:6], [-1, 1, -BIG + 1, BIG - 2, 0, 1])

    def test_great_numbers(self):
        found = last(("set", 1, 0, BIG, 1), ("tick", BIG), ("value", 0))
        # 10^21 for a time of 10^18 - 1, by 10^21.
        self.assertEqual(found, [BIG, 1, 0, 1, BIG, 1, 1000 * BIG * (BIG - 1), BIG - 1, 1])
        found = last(("set", 1, 0, -BIG, 1), ("tick", BIG), ("value", 0))
        self.assertEqual(found, [-BIG, 1, -BIG, 1, 0, 1, -1000 * BIG * (BIG - 1), 1 - BIG, 1])

    def test_values_are_apart(self):
        found = run(("set", 1, 3, 5, 1), ("set", 2, 4, 6, 1), ("tick", 3), ("value", 3), ("value", 4), ("value", 5))
        self.assertEqual(found[3:], [[5, 1, 0, 1, 5, 1, 10000, 10, 3], [6, 1, 0, 1, 6, 1, 6000, 2, 1],
                                     [0, 1, 0, 1, 0, 1, 0, 0, 1]])

    def test_a_refused_set_is_no_member(self):
        found = run(("set", 2, 0, 5, 1), ("set", 1, 0, 99, 1), ("set", 3, 0, 99, 0), ("tick", 3), ("value", 0))
        self.assertEqual(found[1:3], [[-3], [-1]])
        self.assertEqual(found[4], [5, 1, 0, 1, 5, 1, 5000, 5, 3])

    def test_only_what_was_since_the_reset(self):
        found = run(("set", 1, 0, 90, 1), ("set", 2, 0, -4, 3), ("reset", 5), ("value", 0), ("tick", 6), ("value", 0),
                    ("set", 8, 0, 1, 1), ("tick", 9), ("value", 0))
        self.assertEqual(found[3], [-4, 3, -4, 3, -4, 3, 0, 0, 1])
        self.assertEqual(found[5], [-4, 3, -4, 3, -4, 3, -1334, -667, 500])
        self.assertEqual(found[8], [1, 1, -4, 3, 1, 1, -1334 * 3 + 1000, -1501, 2000])


class TestAbove(unittest.TestCase):
    AHEAD = [("set", 2, 5, 3, 2), ("set", 6, 5, -10, 4), ("set", 7, 5, 1, 3), ("set", 9, 5, 3, 2), ("tick", 20)]

    def test_at_least_the_bound(self):
        # 0 for 2, 3/2 for 4, -5/2 for 1, 1/3 for 2, 3/2 for 11.
        for num, den, length in (
            (3, 2, 15), (6, 4, 15), (1501, 1000, 0), (1499, 1000, 15), (1, 3, 17), (2, 6, 17), (0, 1, 19), (0, BIG, 19),
            (-1, BIG, 19), (1, BIG, 17), (-5, 2, 20), (-BIG, 1, 20), (-2499, 1000, 19), (-2501, 1000, 20), (BIG, 1, 0),
            (BIG // 3, BIG, 17), (BIG // 3 + 1, BIG, 15),
        ):
            with self.subTest(num=num, den=den):
                self.assertEqual(last(*self.AHEAD, ("above", 5, num, den)), [length])

    def test_members_below_0_are_not_taken_down(self):
        ahead = [("set", 0, 0, -1, 3), ("tick", 4)]
        for num, den, length in (
            (-1, 3, 4), (-2, 6, 4), (-334, 1000, 4), (-333, 1000, 0), (-BIG // 3, BIG, 4), (-(BIG // 3), BIG, 0),
            (-3335, 10000, 4), (-3333, 10000, 0),
        ):
            with self.subTest(num=num, den=den):
                self.assertEqual(last(*ahead, ("above", 0, num, den)), [length])

    def test_a_value_that_was_not_set(self):
        self.assertEqual(last(("tick", 9), ("above", 63, 0, 1)), [9])
        self.assertEqual(last(("tick", 9), ("above", 63, 1, BIG)), [0])
        self.assertEqual(last(("tick", 9), ("above", 63, -1, BIG)), [9])

    def test_members_of_a_time_of_0(self):
        self.assertEqual(last(("set", 3, 0, 5, 1), ("above", 0, 1, 1)), [0])
        found = last(("set", 3, 0, 5, 1), ("set", 3, 0, 0, 1), ("tick", 8), ("above", 0, 1, 1))
        self.assertEqual(found, [0])

    def test_values_are_apart(self):
        found = run(("set", 1, 3, 5, 1), ("set", 2, 4, 6, 1), ("tick", 5), ("above", 3, 1, 1), ("above", 4, 1, 1),
                    ("above", 5, 1, 1))
        self.assertEqual(found[3:], [[4], [3], [0]])

    def test_only_what_was_since_the_reset(self):
        found = run(("set", 1, 0, 9, 1), ("reset", 5), ("above", 0, 9, 1), ("tick", 7), ("above", 0, 9, 1),
                    ("set", 8, 0, 8, 1), ("tick", 10), ("above", 0, 9, 1), ("above", 0, 8, 1))
        self.assertEqual([found[2], found[4], found[7], found[8]], [[0], [2], [3], [5]])

    def test_a_long_time(self):
        self.assertEqual(last(("set", 1, 0, BIG, 1), ("tick", BIG), ("above", 0, BIG, 1)), [BIG - 1])


if __name__ == "__main__":
    unittest.main()
