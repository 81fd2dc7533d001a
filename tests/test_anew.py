"""Every question on a new book, at the moment of a reset, right behind one, and behind a clear."""

import unittest

from tests.helper import BIG, last, run

QUESTIONS = [
    ("meter", 7), ("means", 7), ("levels", 7), ("inside", 7), ("busy", 7), ("table", 3), ("classes", 3),
    ("quantile", 3, 1, 2), ("below", 3, 1, 2), ("value", 5), ("above", 5, -1, 3), ("clock",), ("live",),
]

# What each question answers on a new book.
NEW = [
    [0] * 10, [0, 1] * 3, [0], [0], [0, 0, 0], [-8], [-8], [-8], [-8], [0, 1, 0, 1, 0, 1, 0, 0, 1], [0], [0, 0], [0],
]

FULL = [
    ("join", 1, 7, 10, 2), ("join", 2, 7, 4, 3), ("join", 2, 7, 6, 3), ("quit", 3, 7, 6), ("raise", 4, 7, 5),
    ("raise", 4, 9, 1), ("lower", 4, 9, 1), ("define", 3, 2, 1, 2, 1, 3), ("tally", 3, 4, 1, 2), ("tally", 3, 2, -1, 1),
    ("set", 5, 5, 8, 1), ("set", 6, 5, -1, 3), ("tick", 9),
]


def asked(*ahead):
    """The answers of all questions behind these calls."""
    return run(*ahead, *QUESTIONS)[len(ahead):]


class TestNewBook(unittest.TestCase):
    def test_each_question(self):
        self.assertEqual(asked(), NEW)

    def test_each_question_as_the_first_call(self):
        for question, answer in zip(QUESTIONS, NEW, strict=True):
            with self.subTest(question=question):
                self.assertEqual(run(question), [answer])

    def test_each_question_as_time_went_by(self):
        self.assertEqual(asked(("tick", 6)), [
            [0] * 10, [0, 1] * 3, [1, 0, 6], [0], [0, 0, 0], [-8], [-8], [-8], [-8], [0, 1, 0, 1, 0, 1, 0, 0, 1], [6],
            [6, 0], [0],
        ])

    def test_every_meter_table_and_value(self):
        calls = [("meter", number) for number in range(256)] + [("table", number) for number in range(64)]
        calls += [("value", number) for number in range(64)]
        self.assertEqual(run(*calls), [[0] * 10] * 256 + [[-8]] * 64 + [[0, 1, 0, 1, 0, 1, 0, 0, 1]] * 64)


class TestReset(unittest.TestCase):
    def test_on_a_new_book(self):
        self.assertEqual(asked(("reset", 0)), NEW)
        self.assertEqual(asked(("reset", 8)), NEW[:11] + [[8, 8], [0]])

    def test_a_full_book_ahead_of_it(self):
        self.assertEqual(asked(*FULL), [
            [10, 10, 2 * 1 + 8 * 1 + 5 * 1 + 10 * 5, 3, 1, 0, 1, 3, 2, 5], [65, 9, 1, 1, 1, 1],
            [5, 0, 1, 2, 1, 5, 1, 8, 1, 10, 5], [2, 10, 2, 1, 4, 3, 2], [1, 8, 8],
            [2, 6, 0, 1, 3, 1, -1, 1, 1, 2, 0, 1, 1, 2], [4, 2, 4, 0, 0], [1, 2], [2, 4],
            [-1, 3, -1, 3, 8, 1, 8000 - 334 * 3, 3499, 4500], [9], [9, 0], [2, 7, 9],
        ])

    def test_at_the_moment_of_a_reset_of_a_full_book(self):
        for time in (9, 12):
            with self.subTest(time=time):
                self.assertEqual(asked(*FULL, ("reset", time)), [
                    [10, 10, 0, 2, 0, 0, 0, 0, 2, 5], [0, 1] * 3, [0], [2, 10, 2, time, 4, 3, time], [1, 0, 0],
                    [0, 0] + [0, 1] * 6, [4, 0, 0, 0, 0], [-10], [0, 0], [-1, 3, -1, 3, -1, 3, 0, 0, 1], [0],
                    [time, time], [1, 7],
                ])

    def test_right_behind_a_reset_of_a_full_book(self):
        self.assertEqual(asked(*FULL, ("reset", 12), ("tick", 16)), [
            [10, 10, 40, 2, 0, 0, 0, 0, 2, 5], [10, 1, 0, 1, 0, 1], [1, 10, 4], [2, 10, 2, 12, 4, 3, 12], [1, 4, 4],
            [0, 0] + [0, 1] * 6, [4, 0, 0, 0, 0], [-10], [0, 0], [-1, 3, -1, 3, -1, 3, -1336, -167, 500], [4],
            [16, 12], [1, 7],
        ])

    def test_changes_behind_a_reset(self):
        found = asked(*FULL, ("reset", 12), ("quit", 12, 7, 4), ("lower", 13, 7, 5), ("quit", 14, 7, 10),
                      ("raise", 14, 0, 1), ("tally", 3, 6, 5, 6), ("set", 15, 5, 1, 1), ("tick", 16))
        self.assertEqual(found, [
            [0, 10, 7 + 2, 2, 2, 1, 2, 4, 0, 0], [9, 4, 1, 1, 2, 1], [3, 0, 2, 2, 1, 7, 1], [0], [1, 2, 2],
            [1, 6, 5, 1, 25, 6, 5, 6, 5, 6, 5, 6, 0, 1], [4, 0, 0, 6, 0], [5, 6], [0, 0],
            [1, 1, -1, 3, 1, 1, -334 * 3 + 1000, -1, 2000], [4], [16, 12], [2, 0, 7],
        ])

    def test_a_refused_reset(self):
        self.assertEqual(asked(*FULL, ("reset", 8)), asked(*FULL))
        self.assertEqual(asked(*FULL, ("reset", BIG + 1)), asked(*FULL))


class TestClear(unittest.TestCase):
    def test_behind_a_clear_the_book_is_new(self):
        for ahead in ([], FULL, FULL + [("reset", 12)], FULL + [("reset", 12), ("tick", 16)], [("tick", BIG)]):
            with self.subTest(ahead=ahead):
                self.assertEqual(last(*ahead, ("clear",)), [0])
                self.assertEqual(asked(*ahead, ("clear",)), NEW)
                self.assertEqual(asked(*ahead, ("clear",), ("clear",)), NEW)

    def test_the_same_calls_answer_the_same_again(self):
        calls = FULL + QUESTIONS + [("reset", 12), ("tick", 13)] + QUESTIONS
        found = run(*calls, ("clear",), *calls)
        self.assertEqual(found[:len(calls)], found[len(calls) + 1:])

    def test_the_clock_may_begin_at_0_again(self):
        found = run(("tick", BIG), ("clear",), ("tick", 0), ("join", 3, 7, 10, 1), ("clock",), ("inside", 7))
        self.assertEqual(found[1:], [[0], [0], [0], [3, 0], [1, 10, 1, 3]])

    def test_a_clear_is_never_before_the_clock(self):
        self.assertEqual(run(("tick", BIG), ("clear",), ("reset", 5), ("clear",), ("clock",))[1:],
                         [[0], [0], [0], [0, 0]])

    def test_nothing_that_was_loose_in_or_defined_is_there(self):
        found = run(*FULL, ("clear",), ("lower", 0, 7, 1), ("quit", 0, 7, 10), ("tally", 3, 1, 1, 1), ("merge", 3, 4),
                    ("join", 0, 7, 10, 1))
        self.assertEqual(found[len(FULL):], [[0], [-6], [-4], [-8], [-8], [0]])

    def test_every_meter_table_and_value(self):
        ahead = [("raise", 3, number, 1) for number in (0, 1, 128, 254, 255)]
        ahead += [("define", number, 1, 0, 1, 1, 1) for number in (0, 63)]
        ahead += [("set", 4, number, 5, 1) for number in (0, 63)]
        found = run(*ahead, ("clear",), ("live",), ("table", 0), ("table", 63), ("value", 0), ("value", 63))
        self.assertEqual(found[len(ahead):], [[0], [0], [-8], [-8]] + [[0, 1, 0, 1, 0, 1, 0, 0, 1]] * 2)


class TestQuestionsChangeNothing(unittest.TestCase):
    def test_asked_twice(self):
        for ahead in ([], FULL, FULL + [("reset", 12)], FULL + [("reset", 12), ("tick", 16)]):
            with self.subTest(ahead=ahead):
                found = run(*ahead, *QUESTIONS, *reversed(QUESTIONS))[len(ahead):]
                self.assertEqual(found[:len(QUESTIONS)], found[:len(QUESTIONS) - 1:-1])

    def test_asked_between_the_other_calls(self):
        between = []
        for call in FULL + [("reset", 12), ("tick", 16)]:
            between += [call] + QUESTIONS
        self.assertEqual(asked(*between), asked(*FULL, ("reset", 12), ("tick", 16)))

    def test_refused_questions(self):
        refused = [("meter", 256), ("table", 4), ("quantile", 3, 2, 1), ("quantile", 4, 1, 1), ("classes", -1),
                   ("below", 4, 1, 1), ("value", 64), ("above", 0, 1, 0)]
        self.assertEqual(asked(*FULL, *refused), asked(*FULL))


if __name__ == "__main__":
    unittest.main()
