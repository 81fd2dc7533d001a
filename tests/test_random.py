"""Long lists of drawn calls against a second book, which counts moment by moment."""

import random
import unittest
from fractions import Fraction

from tests.helper import BIG, BILLION, run

RANGES = {
    "join": [(0, BIG), (0, 255), (1, BILLION), (1, BILLION)],
    "quit": [(0, BIG), (0, 255), (1, BILLION)],
    "raise": [(0, BIG), (0, 255), (1, BILLION)],
    "lower": [(0, BIG), (0, 255), (1, BILLION)],
    "define": [(0, 63), (1, 100), (-BIG, BIG), (1, BIG), (1, BIG), (1, BIG)],
    "tally": [(0, 63), (1, BILLION), (-BIG, BIG), (1, BIG)],
    "set": [(0, BIG), (0, 63), (-BIG, BIG), (1, BIG)],
    "reset": [(0, BIG)],
    "tick": [(0, BIG)],
    "merge": [(0, 63), (0, 63)],
    "meter": [(0, 255)],
    "means": [(0, 255)],
}
TIMED = ("join", "quit", "raise", "lower", "set", "reset", "tick")


class Place:
    """A meter that adds up as time goes by."""

    def __init__(self):
        self.inside = []
        self.loose = self.area = self.most = self.begun = 0
        self.stays = []

    def content(self):
        return sum(units for _, units, _ in self.inside) + self.loose


class SecondBook:
    def __init__(self):
        self.clock = self.begin = 0
        self.places = {}
        self.tables = {}

    def place(self, number):
        return self.places.setdefault(number, Place())

    def pass_time(self, time):
        for place in self.places.values():
            place.area += place.content() * (time - self.clock)
        self.clock = time

    def answer(self, name, *numbers):
        for number, (least, most) in zip(numbers, RANGES[name], strict=True):
            if not least <= number <= most:
                return [-1]
        if name in TIMED and numbers[0] < self.clock:
            return [-3]
        refusal = getattr(self, "ask_" + name, lambda *rest: 0)(*numbers)
        if refusal != 0:
            return refusal if isinstance(refusal, list) else [refusal]
        if name in TIMED:
            self.pass_time(numbers[0])
        getattr(self, "do_" + name)(*numbers)
        for place in self.places.values():
            place.most = max(place.most, place.content())
        return [0]

    def ask_join(self, time, meter, name, units):
        names = [guest[0] for guest in self.place(meter).inside]
        return -4 if name in names else -5 if len(names) == 300 else 0

    def do_join(self, time, meter, name, units):
        self.place(meter).inside.append((name, units, time))
        self.place(meter).begun += 1

    def ask_quit(self, time, meter, name):
        return 0 if name in [guest[0] for guest in self.place(meter).inside] else -4

    def do_quit(self, time, meter, name):
        place = self.place(meter)
        place.stays += [(units, time - since) for who, units, since in place.inside if who == name]
        place.inside = [guest for guest in place.inside if guest[0] != name]

    def do_raise(self, time, meter, units):
        self.place(meter).loose += units

    def ask_lower(self, time, meter, units):
        return -6 if units > self.place(meter).loose else 0

    def do_lower(self, time, meter, units):
        self.place(meter).loose -= units

    def do_define(self, table, count, low_num, low_den, width_num, width_den):
        self.tables[table] = (count, Fraction(low_num, low_den), Fraction(width_num, width_den))

    def ask_tally(self, table, weight, num, den):
        return -8 if table not in self.tables else -7 if Fraction(num, den).denominator > 1000 else 0

    def do_tally(self, table, weight, num, den):
        pass

    def do_set(self, time, value, num, den):
        pass

    def do_reset(self, time):
        self.begin = time
        for place in self.places.values():
            place.inside = [(name, units, time) for name, units, _ in place.inside]
            place.area = 0
            place.most = place.content()
            place.begun = len(place.inside)
            place.stays = []

    def do_tick(self, time):
        pass

    def ask_merge(self, table, other):
        if table == other:
            return -4
        return 0 if table in self.tables and self.tables[table] == self.tables.get(other) else -8

    def do_merge(self, table, other):
        pass

    def ask_meter(self, meter):
        place = self.place(meter)
        return [
            place.content(), place.most, place.area, place.begun, len(place.stays),
            sum(1 for _, stay in place.stays if stay == 0), sum(stay for _, stay in place.stays),
            sum(units * stay for units, stay in place.stays), len(place.inside), place.loose,
        ]

    def ask_means(self, meter):
        place = self.place(meter)
        lasted = sum(stay for _, stay in place.stays)
        told = []
        for num, den in (
            (place.area, self.clock - self.begin), (lasted, len(place.stays)),
            (lasted, sum(1 for _, stay in place.stays if stay != 0)),
        ):
            part = Fraction(num, den) if den else Fraction(0)
            told += [part.numerator, part.denominator]
        return told


class Drawer:
    """Draws calls, most of them small enough that they meet one another."""

    def __init__(self, seed):
        self.source = random.Random(seed)
        self.time = 0
        self.step = self.source.choice([1, 3, 1000, BIG // 500])

    def number(self, ends, most):
        least, greatest = ends
        chance = self.source.random()
        if chance < 0.01:
            return self.source.choice([least - 1, greatest + 1, least, greatest])
        return self.source.randint(max(least, -most), min(greatest, most))

    def draw(self):
        names = list(RANGES)
        name = self.source.choices(names, [9, 6, 4, 4, 2, 2, 1, 0.3, 2, 2, 4, 3])[0]
        numbers = [self.number(ends, self.source.choice([2, 4])) for ends in RANGES[name]]
        if name in TIMED:
            numbers[0] = self.time + self.source.choice([0, 0, 0, 1, 1, self.step, -1])
            self.time = max(self.time, numbers[0])
        if name in ("join", "raise", "tally") and self.source.random() < 0.3:
            numbers[-1] = self.source.choice([BILLION, BILLION - 1, 1001, 1000, 12345])
        return (name, *numbers)


class TestDrawn(unittest.TestCase):
    def test_drawn_calls(self):
        for seed in range(150):
            drawer = Drawer(seed)
            calls = [drawer.draw() for _ in range(400)]
            second = SecondBook()
            expected = [second.answer(*call) for call in calls]
            found = run(*calls)
            if found != expected:
                at = [one == other for one, other in zip(found, expected)].index(False)
                self.fail(f"seed {seed}, call {at}: {calls[at]} gave {found[at]}, expected {expected[at]}")

    def test_the_draw_meets_every_answer(self):
        seen = set()
        for seed in range(150):
            drawer = Drawer(seed)
            second = SecondBook()
            for _ in range(400):
                call = drawer.draw()
                answer = second.answer(*call)
                seen.add((call[0], answer[0] if len(answer) == 1 else "told"))
        for pair in (("join", -4), ("quit", -4), ("lower", -6), ("tally", -7), ("tally", -8), ("merge", -4),
                     ("merge", -8), ("merge", 0), ("reset", -3), ("reset", 0), ("set", -1), ("meter", "told")):
            self.assertIn(pair, seen)


if __name__ == "__main__":
    unittest.main()
