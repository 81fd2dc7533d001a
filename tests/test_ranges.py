"""Each number of each call at the ends of its range and one beyond them."""

import unittest

from tests.helper import BIG, BILLION, last, run

TIME = (0, BIG)
METER = (0, 255)
NAME = (1, BILLION)
AMOUNT = (1, BILLION)
TABLE = (0, 63)
VALUE = (0, 63)
NUMERATOR = (-BIG, BIG)
DENOMINATOR = (1, BIG)
LENGTHS = {"meter": 10, "means": 6, "busy": 3, "table": 14, "quantile": 2, "below": 2, "value": 9, "above": 1}

# For each call: numbers that are in range, and their ranges.
CASES = {
    "join": ([5, 1, 2, 3], [TIME, METER, NAME, AMOUNT]),
    "quit": ([5, 1, 2], [TIME, METER, NAME]),
    "raise": ([5, 1, 2], [TIME, METER, AMOUNT]),
    "lower": ([5, 1, 2], [TIME, METER, AMOUNT]),
    "define": ([1, 2, 3, 4, 5, 6], [TABLE, (1, 100), NUMERATOR, DENOMINATOR, (1, BIG), DENOMINATOR]),
    "tally": ([1, 2, 0, 1], [TABLE, AMOUNT, NUMERATOR, DENOMINATOR]),
    "set": ([1, 2, 3, 4], [TIME, VALUE, NUMERATOR, DENOMINATOR]),
    "reset": ([5], [TIME]),
    "tick": ([5], [TIME]),
    "merge": ([1, 2], [TABLE, TABLE]),
    "meter": ([1], [METER]),
    "means": ([1], [METER]),
    "levels": ([1], [METER]),
    "inside": ([1], [METER]),
    "busy": ([1], [METER]),
    "table": ([1], [TABLE]),
    "classes": ([1], [TABLE]),
    "quantile": ([1, 2, 3], [TABLE, (0, 3), (2, BILLION)]),
    "below": ([1, 2, 3], [TABLE, NUMERATOR, DENOMINATOR]),
    "value": ([1], [VALUE]),
    "above": ([1, 2, 3], [VALUE, NUMERATOR, DENOMINATOR]),
}


def ready_for(name, numbers):
    """Calls ahead, so that the call itself isn't refused by anything but a range."""
    if name == "quit":
        return [("join", 0, numbers[1], numbers[2], 1)]
    if name == "lower":
        return [("raise", 0, numbers[1], numbers[2])]
    if name in ("table", "classes", "quantile", "below"):
        return [("define", numbers[0], 1, 0, 1, 1, 1), ("tally", numbers[0], 1, 1, 1)]
    if name == "tally":
        return [("define", numbers[0], 1, 0, 1, 1, 1)]
    if name == "merge":
        return [("define", number, 1, 0, 1, 1, 1) for number in numbers]
    return []


class TestRanges(unittest.TestCase):
    def each(self):
        for name, (numbers, ranges) in CASES.items():
            for at, ends in enumerate(ranges):
                yield name, numbers, at, ends

    def test_the_ends_are_in_range(self):
        for name, numbers, at, ends in self.each():
            for end in ends:
                asked = list(numbers)
                asked[at] = end
                with self.subTest(name=name, asked=asked):
                    answer = last(*ready_for(name, asked), (name, *asked))
                    if name in LENGTHS:
                        self.assertEqual(len(answer), LENGTHS[name])
                    elif name == "classes":
                        self.assertEqual(answer, [3, 0, 0, 1])
                    else:
                        self.assertEqual(answer, [0])

    def test_one_beyond_the_ends_is_refused(self):
        for name, numbers, at, ends in self.each():
            for beyond in (ends[0] - 1, ends[1] + 1):
                asked = list(numbers)
                asked[at] = beyond
                with self.subTest(name=name, asked=asked):
                    self.assertEqual(last((name, *asked)), [-1])

    def test_far_beyond_the_ends_is_refused(self):
        for name, numbers, at, ends in self.each():
            for beyond in (-BIG, BIG):
                if ends[0] <= beyond <= ends[1]:
                    continue
                asked = list(numbers)
                asked[at] = beyond
                with self.subTest(name=name, asked=asked):
                    self.assertEqual(last((name, *asked)), [-1])

    def test_each_denominator_must_be_above_0(self):
        for den in (0, -1, -BIG):
            self.assertEqual(last(("define", 0, 1, 1, den, 1, 1)), [-1])
            self.assertEqual(last(("define", 0, 1, 1, 1, 1, den)), [-1])
            self.assertEqual(last(("tally", 0, 1, 1, den)), [-1])
            self.assertEqual(last(("set", 0, 0, 1, den)), [-1])
            self.assertEqual(last(("below", 0, 1, den)), [-1])
            self.assertEqual(last(("above", 0, 1, den)), [-1])

    def test_the_part_of_a_quantile_is_from_0_to_its_whole(self):
        ahead = [("define", 0, 1, 0, 1, 1, 1), ("tally", 0, 1, 7, 1)]
        for part, whole in ((0, 1), (1, 1), (0, BILLION), (1, BILLION), (BILLION, BILLION), (5, 5), (4, 5)):
            with self.subTest(part=part, whole=whole):
                self.assertEqual(last(*ahead, ("quantile", 0, part, whole)), [7, 1])
        for part, whole in ((-1, 1), (2, 1), (6, 5), (0, 0), (1, 0), (-1, 0), (0, -1), (-2, -1), (-1, -1),
                            (-1, BILLION), (BILLION + 1, BILLION), (BILLION, BILLION + 1), (BILLION + 1, BILLION + 1),
                            (BIG, BIG), (0, BILLION + 1), (0, BIG), (BIG, BILLION), (-BIG, -BIG),
                            (BILLION, BILLION - 1)):
            with self.subTest(part=part, whole=whole):
                self.assertEqual(last(*ahead, ("quantile", 0, part, whole)), [-1])

    def test_only_a_quantile_has_a_part_and_a_whole(self):
        ahead = [("define", 0, 1, 0, 1, 1, 1), ("tally", 0, 1, 7, 1)]
        self.assertEqual(last(*ahead, ("below", 0, 8, 1)), [1, 0])
        self.assertEqual(last(*ahead, ("tick", 3), ("above", 0, -8, 1)), [3])

    def test_a_width_must_be_above_0(self):
        for num in (0, -1, -BIG):
            self.assertEqual(last(("define", 0, 1, 1, 1, num, 1)), [-1])
            self.assertEqual(last(("define", 0, 1, 1, 1, num, BIG)), [-1])
        # Two numbers below 0 tell no width: the denominator is out of its range.
        self.assertEqual(last(("define", 0, 1, 1, 1, -1, -1)), [-1])
        self.assertEqual(last(("define", 0, 1, 1, 1, 1, BIG)), [0])
        self.assertEqual(last(("define", 0, 1, -BIG, 1, BIG, 1)), [0])


class TestRefusedByRangeChangesNothing(unittest.TestCase):
    def test_the_clock_stays(self):
        for name, numbers, at, ends in TestRanges().each():
            if CASES[name][1][0] != TIME:
                continue
            asked = list(numbers)
            asked[0] = 50
            asked[at] = ends[1] + 1
            with self.subTest(name=name, asked=asked):
                self.assertEqual(run((name, *asked), ("tick", 1)), [[-1], [0]])

    def test_a_table_that_was_defined_stays(self):
        ahead = [("define", 0, 3, 1, 2, 1, 3), ("define", 1, 3, 1, 2, 1, 3)]
        for asked in ((0, 101, 1, 2, 1, 3), (0, 4, 1, 0, 1, 3), (0, 4, 1, 2, 0, 3), (0, 4, 1, 2, 1, 0)):
            with self.subTest(asked=asked):
                self.assertEqual(run(*ahead, ("define", *asked), ("merge", 0, 1))[2:], [[-1], [0]])

    def test_a_meter_stays(self):
        ahead = [("join", 1, 9, 4, 2), ("raise", 2, 9, 3)]
        expected = last(*ahead, ("meter", 9))
        for refused in (("join", 3, 9, 0, 1), ("join", 3, 9, 5, 0), ("quit", -1, 9, 4), ("quit", 3, 9, 0),
                        ("raise", 3, 9, 0), ("raise", 3, 9, BILLION + 1), ("lower", 3, 9, 0), ("reset", -1)):
            with self.subTest(refused=refused):
                self.assertEqual(run(*ahead, refused, ("meter", 9))[2:], [[-1], expected])


if __name__ == "__main__":
    unittest.main()
