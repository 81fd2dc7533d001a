"""Each refusal at each call that can answer it, their order, and that nothing is changed."""

import unittest

from tests.helper import BIG, BILLION, last, run

TIMED = {
    "join": (1, 2, 3), "quit": (1, 2), "raise": (1, 2), "lower": (1, 2),
    "set": (1, 2, 3), "reset": (), "tick": (),
}

FULL = [("join", 0, 0, number + 1, 1) for number in range(300)]


class TestBeforeTheClock(unittest.TestCase):
    def test_each_call_with_a_time(self):
        for name, rest in TIMED.items():
            with self.subTest(name=name):
                ahead = [("join", 0, 1, 2, 1), ("raise", 0, 1, 2), ("tick", 10)]
                self.assertEqual(last(*ahead, (name, 9, *rest)), [-3])
                self.assertEqual(last(*ahead, (name, 0, *rest)), [-3])

    def test_the_clock_itself_is_not_before_it(self):
        self.assertEqual(
            run(("tick", 10), ("join", 10, 1, 2, 1), ("quit", 10, 1, 2), ("raise", 10, 1, 2), ("lower", 10, 1, 2),
                ("set", 10, 1, 1, 1), ("reset", 10), ("tick", 10)),
            [[0]] * 8,
        )

    def test_each_call_with_a_time_sets_the_clock(self):
        for name, rest in TIMED.items():
            with self.subTest(name=name):
                ahead = [("join", 0, 1, 9, 1), ("raise", 0, 1, 2)]
                rest = {"quit": (1, 9)}.get(name, rest)
                found = run(*ahead, (name, 7, *rest), ("tick", 6), ("tick", 7))
                self.assertEqual(found[2:], [[0], [-3], [0]])

    def test_calls_without_a_time_leave_the_clock(self):
        found = run(("tick", 5), ("define", 0, 1, 0, 1, 1, 1), ("define", 1, 1, 0, 1, 1, 1), ("tally", 0, 7, 8, 1),
                    ("merge", 1, 0), ("meter", 9), ("means", 9), ("levels", 9), ("inside", 9), ("busy", 9),
                    ("table", 1), ("classes", 1), ("quantile", 1, 7, 8), ("below", 1, 7, 8), ("value", 9),
                    ("above", 9, 7, 8), ("clock",), ("live",), ("tick", 4), ("tick", 5))
        self.assertEqual(found[16], [5, 0])
        self.assertEqual(found[18:], [[-3], [0]])

    def test_at_the_end_of_time(self):
        self.assertEqual(run(("tick", BIG), ("tick", BIG - 1), ("tick", BIG), ("reset", BIG)), [[0], [-3], [0], [0]])

    def test_a_refused_call_leaves_the_clock(self):
        found = run(("tick", 10), ("tick", 9), ("raise", 9, 0, 1), ("tick", 10), ("meter", 0))
        self.assertEqual(found[1:], [[-3], [-3], [0], [0] * 10])


class TestOrder(unittest.TestCase):
    def test_a_range_ahead_of_the_time(self):
        for name, rest in TIMED.items():
            for at in range(len(rest)):
                wrong = list(rest)
                wrong[at] = -BIG - 1
                with self.subTest(name=name, wrong=wrong):
                    self.assertEqual(last(("tick", 10), (name, 9, *wrong)), [-1])

    def test_a_range_ahead_of_the_others(self):
        self.assertEqual(last(("join", 0, 0, 1, 1), ("join", 0, 0, 1, 0)), [-1])
        self.assertEqual(last(*FULL, ("join", 0, 0, 301, BILLION + 1)), [-1])
        self.assertEqual(last(("quit", BIG + 1, 0, 1)), [-1])
        self.assertEqual(last(("lower", BIG + 1, 0, 1)), [-1])
        self.assertEqual(last(("tally", 0, 0, 1, 1001)), [-1])
        self.assertEqual(last(("merge", 64, 64)), [-1])
        self.assertEqual(last(("merge", -1, -1)), [-1])
        self.assertEqual(last(("merge", 0, 64)), [-1])
        self.assertEqual(last(("quantile", 0, 2, 1)), [-1])
        self.assertEqual(last(("quantile", 0, 0, 0)), [-1])
        self.assertEqual(last(("define", 0, 1, 0, 1, 1, 1), ("quantile", 0, 2, 1)), [-1])
        self.assertEqual(last(("below", 0, 1, 0)), [-1])
        self.assertEqual(last(("table", 64)), [-1])
        self.assertEqual(last(("classes", 64)), [-1])

    def test_the_time_ahead_of_the_others(self):
        self.assertEqual(last(("join", 5, 0, 1, 1), ("join", 4, 0, 1, 1)), [-3])
        self.assertEqual(last(*FULL, ("tick", 5), ("join", 4, 0, 301, 1)), [-3])
        self.assertEqual(last(("tick", 5), ("quit", 4, 0, 1)), [-3])
        self.assertEqual(last(("tick", 5), ("lower", 4, 0, 1)), [-3])

    def test_join_who_is_in_already_ahead_of_full(self):
        self.assertEqual(last(*FULL, ("join", 0, 0, 300, 1)), [-4])
        self.assertEqual(last(*FULL, ("join", 0, 0, 301, 1)), [-5])

    def test_tally_undefined_ahead_of_too_fine(self):
        self.assertEqual(last(("tally", 0, 1, 1, 1001)), [-8])
        self.assertEqual(last(("define", 0, 1, 0, 1, 1, 1), ("tally", 0, 1, 1, 1001)), [-7])

    def test_quantile_undefined_ahead_of_no_tallies(self):
        self.assertEqual(last(("quantile", 0, 1, 2)), [-8])
        self.assertEqual(last(("define", 0, 1, 0, 1, 1, 1), ("quantile", 0, 1, 2)), [-10])
        self.assertEqual(last(("define", 0, 1, 0, 1, 1, 1), ("quantile", 1, 1, 2)), [-8])

    def test_merge_with_itself_ahead_of_undefined(self):
        self.assertEqual(last(("merge", 5, 5)), [-4])
        self.assertEqual(last(("define", 5, 1, 0, 1, 1, 1), ("merge", 5, 5)), [-4])


class TestMeterRefusals(unittest.TestCase):
    def test_join_who_is_in_already(self):
        self.assertEqual(run(("join", 0, 0, 1, 1), ("join", 3, 0, 1, 9), ("tick", 2)), [[0], [-4], [0]])

    def test_join_again_after_quitting(self):
        self.assertEqual(last(("join", 0, 0, 1, 1), ("quit", 3, 0, 1), ("join", 3, 0, 1, 9)), [0])

    def test_join_who_stayed_in_over_a_reset(self):
        self.assertEqual(last(("join", 0, 0, 1, 1), ("reset", 3), ("join", 3, 0, 1, 9)), [-4])

    def test_the_same_id_in_several_meters(self):
        found = run(("join", 0, 0, 1, 2), ("join", 0, 1, 1, 3), ("join", 0, 255, 1, 4), ("quit", 1, 1, 1),
                    ("quit", 1, 1, 1), ("meter", 0), ("meter", 1), ("meter", 255))
        self.assertEqual(found[:5], [[0], [0], [0], [0], [-4]])
        self.assertEqual([answer[0] for answer in found[5:]], [2, 0, 4])
        self.assertEqual([answer[8] for answer in found[5:]], [1, 0, 1])

    def test_300_may_be_in_and_not_one_more(self):
        found = run(*FULL, ("join", 4, 0, 301, 1), ("tick", 3), ("meter", 0))
        self.assertEqual(found[:300], [[0]] * 300)
        self.assertEqual(found[300:302], [[-5], [0]])
        self.assertEqual(found[302], [300, 300, 900, 300, 0, 0, 0, 0, 300, 0])

    def test_300_in_one_meter_leave_the_others_free(self):
        self.assertEqual(last(*FULL, ("join", 0, 1, 1, 1)), [0])

    def test_one_may_come_for_one_who_went(self):
        found = run(*FULL, ("join", 0, 0, 301, 1), ("quit", 0, 0, 7), ("join", 0, 0, 301, 1), ("join", 0, 0, 302, 1))
        self.assertEqual(found[300:], [[-5], [0], [0], [-5]])

    def test_300_stay_in_over_a_reset(self):
        self.assertEqual(run(*FULL, ("reset", 1), ("join", 1, 0, 301, 1))[300:], [[0], [-5]])

    def test_loose_units_are_nobody(self):
        ahead = [("raise", 0, 0, 1)] * 50
        self.assertEqual(run(*ahead, *FULL, ("join", 0, 0, 301, 1))[350:], [[-5]])

    def test_quit_who_is_not_in(self):
        found = run(("join", 0, 0, 1, 1), ("quit", 5, 0, 2), ("quit", 5, 1, 1), ("tick", 4), ("quit", 5, 0, 1),
                    ("quit", 6, 0, 1), ("meter", 0))
        self.assertEqual(found[:6], [[0], [-4], [-4], [0], [0], [-4]])
        self.assertEqual(found[6], [0, 1, 5, 1, 1, 0, 5, 5, 0, 0])

    def test_lower_more_than_is_loose(self):
        found = run(("lower", 5, 0, 1), ("raise", 1, 0, 3), ("lower", 5, 0, 4), ("lower", 2, 0, 3), ("lower", 2, 0, 1))
        self.assertEqual(found, [[-6], [0], [-6], [0], [-6]])

    def test_units_of_guests_are_not_loose(self):
        found = run(("join", 0, 0, 1, 9), ("raise", 0, 0, 2), ("lower", 5, 0, 3), ("tick", 4), ("meter", 0))
        self.assertEqual(found[2:], [[-6], [0], [11, 11, 44, 1, 0, 0, 0, 0, 1, 2]])

    def test_loose_units_of_another_meter(self):
        self.assertEqual(last(("raise", 0, 0, 2), ("lower", 0, 1, 1)), [-6])

    def test_loose_units_stay_over_a_reset(self):
        found = run(("raise", 0, 0, 2), ("reset", 4), ("lower", 4, 0, 3), ("lower", 4, 0, 2))
        self.assertEqual(found[2:], [[-6], [0]])


if __name__ == "__main__":
    unittest.main()
