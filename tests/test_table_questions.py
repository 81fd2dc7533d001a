"""table, classes, quantile and below: what is told of tallies."""

import math
import unittest
from fractions import Fraction

from tests.helper import BIG, BILLION, last, run

DEFINE = ("define", 3, 10, 0, 1, 1, 1)
EMPTY = [0, 0] + [0, 1] * 6
LIKE = [("define", 0, 2, 0, 1, 1, 1), ("define", 1, 2, 0, 5, 7, 7)]


def tallies(*told):
    """Tallies in table 3, which is defined: each told as weight, numerator, denominator."""
    return [DEFINE] + [("tally", 3, *one) for one in told]


class TestTable(unittest.TestCase):
    def test_all_numbers(self):
        found = last(*tallies((1, 1, 2), (2, 5, 1), (3, -2, 3)), ("table", 3))
        # 1/2 + 10 - 2 = 17/2; 1/4 + 50 + 4/3 = 619/12; by 6: 17/12 and 619/72, less 289/144.
        self.assertEqual(found, [3, 6, 17, 2, 619, 12, -2, 3, 5, 1, 17, 12, 949, 144])

    def test_one_tally(self):
        self.assertEqual(last(*tallies((7, 6, 4)), ("table", 3)), [1, 7, 21, 2, 63, 4, 3, 2, 3, 2, 3, 2, 0, 1])

    def test_undefined(self):
        self.assertEqual(last(("table", 3)), [-8])
        self.assertEqual(last(DEFINE, ("table", 4)), [-8])

    def test_no_tallies(self):
        self.assertEqual(last(DEFINE, ("table", 3)), EMPTY)

    def test_a_value_of_0(self):
        self.assertEqual(last(*tallies((5, 0, 9)), ("table", 3)), [1, 5] + [0, 1] * 6)

    def test_sums_that_are_0(self):
        found = last(*tallies((1, 1, 2), (1, -2, 4)), ("table", 3))
        self.assertEqual(found, [2, 2, 0, 1, 1, 2, -1, 2, 1, 2, 0, 1, 1, 4])

    def test_equal_values_told_by_other_numbers(self):
        found = last(*tallies((1, 1, 2), (4, 500, 1000), (2, BIG // 2, BIG)), ("table", 3))
        self.assertEqual(found, [3, 7, 7, 2, 7, 4, 1, 2, 1, 2, 1, 2, 0, 1])

    def test_all_values_below_0(self):
        found = last(*tallies((1, -3, 1), (1, -7, 2), (1, -10, 3)), ("table", 3))
        self.assertEqual(found[:2], [3, 3])
        self.assertEqual(found[6:10], [-7, 2, -3, 1])
        self.assertEqual(found[2:4] + found[10:12], [-59, 6, -59, 18])

    def test_least_and_greatest_by_worth(self):
        found = last(*tallies((1, 999, 1000), (1, 998, 999), (1, 1, 1), (1, 2, 3)), ("table", 3))
        self.assertEqual(found[6:10], [2, 3, 1, 1])
        found = last(*tallies((1, 998, 999), (1, 999, 1000)), ("table", 3))
        self.assertEqual(found[6:10], [998, 999, 999, 1000])
        found = last(*tallies((1, -998, 999), (1, -999, 1000)), ("table", 3))
        self.assertEqual(found[6:10], [-999, 1000, -998, 999])

    def test_the_weight_counts_once_in_the_second_sum(self):
        self.assertEqual(last(*tallies((10, 3, 1)), ("table", 3))[2:6], [30, 1, 90, 1])

    def test_weights_that_are_not_alike_in_the_variance(self):
        found = last(*tallies((3, 0, 1), (1, 4, 1)), ("table", 3))
        self.assertEqual(found, [2, 4, 4, 1, 16, 1, 0, 1, 4, 1, 1, 1, 3, 1])

    def test_great_numbers(self):
        found = last(*tallies((BILLION, BIG, 1), (BILLION, -BIG, 1), (BILLION, BIG - 1, 1000)), ("table", 3))
        values = [Fraction(BIG), Fraction(-BIG), Fraction(BIG - 1, 1000)]
        mean = sum(values) / 3
        variance = sum(value * value for value in values) / 3 - mean * mean
        expected = [3, 3 * BILLION]
        for part in (sum(values) * BILLION, sum(value * value for value in values) * BILLION, -BIG, BIG, mean,
                     variance):
            expected += [Fraction(part).numerator, Fraction(part).denominator]
        self.assertEqual(found, expected)

    def test_denominators_of_all_primes(self):
        primes = [number for number in range(2, 1000) if all(number % other for other in range(2, number))]
        found = last(*tallies(*[(1, 1, prime) for prime in primes]), ("table", 3))
        self.assertEqual(found[3], math.prod(primes))
        self.assertEqual(found[5], math.prod(primes) ** 2)
        self.assertEqual(Fraction(found[2], found[3]), sum(Fraction(1, prime) for prime in primes))
        mean = Fraction(found[2], found[3]) / len(primes)
        self.assertEqual(Fraction(found[10], found[11]), mean)
        self.assertEqual(Fraction(found[12], found[13]), Fraction(found[4], found[5]) / len(primes) - mean * mean)
        self.assertEqual(math.gcd(found[12], found[13]), 1)

    def test_tables_are_apart(self):
        found = run(*LIKE, ("tally", 0, 1, 1, 1), ("table", 1), ("tally", 1, 2, 5, 1), ("table", 0))
        self.assertEqual(found[3], EMPTY)
        self.assertEqual(found[5], [1, 1] + [1, 1] * 5 + [0, 1])

    def test_a_refused_tally_is_not_noted(self):
        found = run(DEFINE, ("tally", 3, 1, 1, 1001), ("tally", 3, 0, 1, 1), ("tally", 3, 1, 1, 0), ("table", 3))
        self.assertEqual(found[1:], [[-7], [-1], [-1], EMPTY])

    def test_defined_again(self):
        for again in (DEFINE, ("define", 3, 1, 5, 1, 1, 2)):
            self.assertEqual(last(*tallies((1, 1, 2)), again, ("table", 3)), EMPTY)


class TestMerged(unittest.TestCase):
    AHEAD = LIKE + [("tally", 0, 1, 1, 2), ("tally", 1, 2, 5, 1), ("tally", 1, 3, -1, 1), ("tally", 0, 4, 2, 4)]

    def test_all_tallies_are_in_the_one_and_none_in_the_other(self):
        found = run(*self.AHEAD, ("merge", 0, 1), ("table", 0), ("table", 1), ("classes", 0), ("classes", 1),
                    ("quantile", 0, 1, 1), ("quantile", 1, 1, 1), ("below", 0, 1, 2), ("below", 1, 1, 2))[6:]
        self.assertEqual(found[0], [0])
        self.assertEqual(found[1][:6], [4, 10, 19, 2, 217, 4])
        self.assertEqual(found[1][6:10], [-1, 1, 5, 1])
        self.assertEqual(found[2], EMPTY)
        self.assertEqual(found[3:5], [[4, 3, 5, 0, 2], [4, 0, 0, 0, 0]])
        self.assertEqual(found[5:], [[5, 1], [-10], [3, 5], [0, 0]])

    def test_the_other_way_round(self):
        found = run(*self.AHEAD, ("merge", 1, 0), ("table", 0), ("table", 1))
        self.assertEqual(found[-2], EMPTY)
        self.assertEqual(found[-1][:2], [4, 10])

    def test_what_comes_behind_a_merge_is_apart(self):
        found = run(*self.AHEAD, ("merge", 0, 1), ("tally", 1, 7, 9, 1), ("tally", 0, 8, 9, 1), ("below", 0, 9, 1),
                    ("below", 1, 9, 1), ("merge", 0, 1), ("below", 0, 9, 1), ("below", 1, 9, 1))
        self.assertEqual(found[9:11] + found[12:], [[10, 8], [0, 7], [10, 15], [0, 0]])

    def test_a_refused_merge_moves_nothing(self):
        found = run(*self.AHEAD, ("merge", 0, 0), ("merge", 0, 2), ("merge", 2, 0), ("define", 2, 3, 0, 1, 1, 1),
                    ("merge", 0, 2), ("merge", 2, 0), ("below", 0, 9, 1), ("below", 1, 9, 1), ("below", 2, 9, 1))
        self.assertEqual(found[6:], [[-4], [-8], [-8], [0], [-8], [-8], [5, 0], [5, 0], [0, 0]])


class TestClasses(unittest.TestCase):
    def test_undefined(self):
        self.assertEqual(last(("classes", 3)), [-8])
        self.assertEqual(last(DEFINE, ("classes", 4)), [-8])

    def test_no_tallies(self):
        self.assertEqual(last(DEFINE, ("classes", 3)), [12] + [0] * 12)
        self.assertEqual(last(("define", 3, 1, 0, 1, 1, 1), ("classes", 3)), [3, 0, 0, 0])
        self.assertEqual(last(("define", 3, 100, 0, 1, 1, 1), ("classes", 3)), [102] + [0] * 102)

    def slots(self, define, *values):
        """The weights of values, the first of weight 1, then 10, 100 .."""
        calls = [("define", 0, *define)]
        calls += [("tally", 0, 10 ** at, *value) for at, value in enumerate(values)]
        return last(*calls, ("classes", 0))

    def test_just_on_a_bound(self):
        found = self.slots((3, 1, 2, 1, 3), (1, 2), (5, 6), (7, 6), (3, 2))
        self.assertEqual(found, [5, 0, 1, 10, 100, 1000])

    def test_just_below_a_bound(self):
        found = self.slots((3, 1, 2, 1, 3), (499, 1000), (833, 1000), (583, 500), (1499, 1000))
        self.assertEqual(found, [5, 1, 10, 100, 1000, 0])

    def test_far_below_and_far_beyond(self):
        self.assertEqual(self.slots((3, 1, 2, 1, 3), (-BIG, 1), (BIG, 1)), [5, 1, 0, 0, 0, 10])
        self.assertEqual(self.slots((1, -BIG, 1, BIG, 1), (-BIG, 1), (0, 1), (-1, 1000), (BIG, 1)), [3, 0, 101, 1010])

    def test_bounds_below_0(self):
        found = self.slots((2, -3, 2, 1, 1), (-3, 2), (-1, 2), (1, 2), (-2, 1), (0, 1), (-1, 1))
        self.assertEqual(found, [4, 1000, 100001, 10010, 100])

    def test_a_first_bound_beyond_all_values(self):
        self.assertEqual(self.slots((2, BIG, 1, 1, 1), (BIG - 1, 1), (BIG, 1), (0, 1)), [4, 101, 10, 0, 0])

    def test_fine_bounds(self):
        # The first bound lies just above 1/2, so 1/2 is below it.
        self.assertEqual(self.slots((1, BIG // 2 + 1, BIG, 1, BIG), (1, 2), (501, 1000)), [3, 1, 0, 10])
        self.assertEqual(self.slots((1, BIG // 2 - 1, BIG, 1, BIG), (1, 2), (501, 1000)), [3, 0, 0, 11])
        self.assertEqual(self.slots((1, BIG // 2 - 1, BIG, 2, BIG), (1, 2), (501, 1000)), [3, 0, 1, 10])
        self.assertEqual(self.slots((1, 0, 1, BIG, BIG - 1), (1, 1), (1001, 1000)), [3, 0, 1, 10])
        self.assertEqual(self.slots((1, 0, 1, BIG - 1, BIG), (1, 1), (999, 1000)), [3, 0, 10, 1])

    def test_equal_values_told_by_other_numbers(self):
        self.assertEqual(self.slots((2, 2, 4, 3, 6), (1, 2), (5, 10), (2, 2), (100, 100)), [4, 0, 11, 1100, 0])

    def test_a_hundred_classes(self):
        calls = [("define", 0, 100, -10, 1, 1, 5)] + [("tally", 0, number + 1, number - 50, 5) for number in range(100)]
        found = last(*calls, ("tally", 0, 500, 10, 1), ("tally", 0, 700, -10001, 1000), ("classes", 0))
        self.assertEqual(found, [102, 700] + list(range(1, 101)) + [500])

    def test_a_reset_keeps_the_classes(self):
        found = last(("define", 0, 2, 1, 2, 1, 3), ("tally", 0, 5, 1, 2), ("reset", 4), ("tally", 0, 3, 5, 6),
                     ("classes", 0))
        self.assertEqual(found, [4, 0, 0, 3, 0])

    def test_defined_again(self):
        found = run(("define", 0, 2, 1, 2, 1, 3), ("tally", 0, 5, 1, 2), ("define", 0, 1, 0, 1, 1, 1), ("classes", 0),
                    ("tally", 0, 4, 1, 2), ("classes", 0))
        self.assertEqual([found[3], found[5]], [[3, 0, 0, 0], [3, 0, 4, 0]])


class TestQuantile(unittest.TestCase):
    def test_undefined(self):
        self.assertEqual(last(("quantile", 3, 1, 2)), [-8])
        self.assertEqual(last(DEFINE, ("quantile", 4, 1, 2)), [-8])

    def test_no_tallies(self):
        self.assertEqual(last(DEFINE, ("quantile", 3, 1, 2)), [-10])
        self.assertEqual(last(DEFINE, ("quantile", 3, 0, 1)), [-10])
        self.assertEqual(last(*tallies((1, 1, 1)), ("reset", 1), ("quantile", 3, 1, 2)), [-10])
        self.assertEqual(last(*tallies((1, 1, 1)), DEFINE, ("quantile", 3, 1, 2)), [-10])

    def ask(self, told, *asked):
        calls = [("quantile", 3, *one) for one in asked]
        return run(*tallies(*told), *calls)[-len(asked):]

    def test_weights_that_are_alike(self):
        told = [(1, 4, 1), (1, 1, 1), (1, 3, 1), (1, 2, 1)]
        found = self.ask(told, (0, 1), (1, 4), (26, 100), (1, 2), (51, 100), (3, 4), (76, 100), (1, 1))
        self.assertEqual(found, [[1, 1], [1, 1], [2, 1], [2, 1], [3, 1], [3, 1], [4, 1], [4, 1]])

    def test_weights_that_are_not_alike(self):
        told = [(7, 10, 1), (1, -5, 2), (2, 0, 1)]
        found = self.ask(told, (0, 10), (1, 10), (2, 10), (3, 10), (4, 10), (10, 10), (300000000, BILLION),
                         (300000001, BILLION), (100000001, BILLION), (100000000, BILLION))
        self.assertEqual(found, [[-5, 2], [-5, 2], [0, 1], [0, 1], [10, 1], [10, 1], [0, 1], [10, 1], [0, 1], [-5, 2]])

    def test_equal_values_count_together(self):
        told = [(1, 1, 2), (1, 3, 1), (1, 2, 4), (1, BIG, 2 * (BIG // 2)), (1, 500, 1000)]
        found = self.ask(told, (3, 5), (4, 5), (5, 5), (2, 5), (1, 5))
        self.assertEqual(found, [[1, 2], [1, 1], [3, 1], [1, 2], [1, 2]])

    def test_values_in_order_of_worth(self):
        told = [(1, 999, 1000), (1, -999, 1000), (1, 998, 999), (1, -998, 999), (1, 1, 3), (1, 1, 2), (1, -1, 2)]
        found = self.ask(told, *[(part, 7) for part in range(1, 8)])
        self.assertEqual(found, [[-999, 1000], [-998, 999], [-1, 2], [1, 3], [1, 2], [998, 999], [999, 1000]])

    def test_one_tally(self):
        self.assertEqual(self.ask([(BILLION, -6, 4)], (0, 1), (1, 1), (1, BILLION)), [[-3, 2]] * 3)

    def test_great_weights_and_parts(self):
        told = [(BILLION, BIG, 1), (BILLION - 1, -BIG, 1), (1, 0, 1)]
        half = BILLION // 2
        found = self.ask(told, (half - 1, BILLION), (half, BILLION), (half + 1, BILLION), (1, 2), (0, BILLION))
        self.assertEqual(found, [[-BIG, 1], [0, 1], [BIG, 1], [0, 1], [-BIG, 1]])

    def test_the_order_of_the_tallies_stays(self):
        ahead = tallies((1, 4, 1), (1, 1, 1), (1, 3, 1))
        found = run(*ahead, ("table", 3), ("quantile", 3, 1, 2), ("quantile", 3, 1, 2), ("table", 3))
        self.assertEqual(found[-1], found[-4])
        self.assertEqual(found[-2], found[-3])

    def test_each_value_of_many(self):
        told = [(number % 7 + 1, number * 37 % 101 - 50, number % 5 + 1) for number in range(150)]
        whole = sum(weight for weight, _, _ in told)
        asked = [(part, whole) for part in range(0, whole, 3)]
        found = self.ask(told, *asked)
        values = sorted(Fraction(num, den) for weight, num, den in told for _ in range(weight))
        expected = [values[max(part - 1, 0)] for part, _ in asked]
        self.assertEqual(found, [[value.numerator, value.denominator] for value in expected])


class TestBelow(unittest.TestCase):
    def test_undefined(self):
        self.assertEqual(last(("below", 3, 1, 2)), [-8])
        self.assertEqual(last(DEFINE, ("below", 4, 1, 2)), [-8])

    def test_no_tallies(self):
        self.assertEqual(last(DEFINE, ("below", 3, 1, 2)), [0, 0])

    def test_lesser_and_equal_ones(self):
        ahead = tallies((1, 1, 2), (20, -1, 3), (300, 2, 4), (4000, 2, 3))
        for num, den, answer in (
            (1, 2, [20, 301]), (50, 100, [20, 301]), (-1, 3, [0, 20]), (-2, 6, [0, 20]), (2, 3, [321, 4000]),
            (1, 3, [20, 0]), (0, 1, [20, 0]), (-BIG, 1, [0, 0]), (BIG, 1, [4321, 0]), (BIG, BIG, [4321, 0]),
            (BIG // 2 + 1, BIG, [321, 0]), (BIG // 2 - 1, BIG, [20, 0]), (BIG // 2, BIG, [20, 301]),
            (-BIG // 3, BIG, [0, 0]), (-(BIG // 3), BIG, [20, 0]),
        ):
            with self.subTest(num=num, den=den):
                self.assertEqual(last(*ahead, ("below", 3, num, den)), answer)

    def test_a_bound_may_be_finer_than_a_tally(self):
        self.assertEqual(last(*tallies((5, 0, 1)), ("below", 3, 1, BIG)), [5, 0])
        self.assertEqual(last(*tallies((5, 0, 1)), ("below", 3, -1, BIG)), [0, 0])
        self.assertEqual(last(*tallies((5, 0, 1)), ("below", 3, 0, BIG)), [0, 5])


if __name__ == "__main__":
    unittest.main()
