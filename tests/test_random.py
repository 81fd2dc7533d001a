"""Long lists of drawn calls against a second book, which counts moment by moment."""

import math
import random
import unittest
from fractions import Fraction

from tests.helper import BIG, BILLION, run

RANGES = {
    "join": [(0, BIG), (0, 255), (1, BILLION), (1, BILLION)],
    "quit": [(0, BIG), (0, 255), (1, BILLION)],
    "raise": [(0, BIG), (0, 255), (1, BILLION)],
    "lower": [(0, BIG), (0, 255), (1, BILLION)],
    "define": [(0, 63), (1, 100), (-BIG, BIG), (1, BIG), (1, BIG), (1, BIG)],
    "tally": [(0, 63), (1, BILLION), (-BIG, BIG), (1, BIG)],
    "set": [(0, BIG), (0, 63), (-BIG, BIG), (1, BIG)],
    "reset": [(0, BIG)],
    "tick": [(0, BIG)],
    "merge": [(0, 63), (0, 63)],
    "meter": [(0, 255)],
    "means": [(0, 255)],
    "levels": [(0, 255)],
    "inside": [(0, 255)],
    "busy": [(0, 255)],
    "table": [(0, 63)],
    "classes": [(0, 63)],
    "quantile": [(0, 63), (0, BILLION), (1, BILLION)],
    "below": [(0, 63), (-BIG, BIG), (1, BIG)],
    "value": [(0, 63)],
    "above": [(0, 63), (-BIG, BIG), (1, BIG)],
    "clock": [],
    "live": [],
    "clear": [],
}
TIMED = ("join", "quit", "raise", "lower", "set", "reset", "tick")


def pair(number):
    """The two numbers of a fraction."""
    return [Fraction(number).numerator, Fraction(number).denominator]


class Place:
    """A meter that adds up as time goes by."""

    def __init__(self):
        self.inside = []
        self.loose = 0
        self.begin()

    def begin(self):
        """Note anew, from a reset on."""
        self.area = 0
        self.most = self.content()
        self.begun = len(self.inside)
        self.stays = []
        self.lengths = {}
        self.is_open = self.content() > 0
        self.spells = [0] if self.is_open else []
        self.is_touched = False

    def content(self):
        return sum(units for _, units, _ in self.inside) + self.loose

    def last(self, length):
        """So much time goes by."""
        content = self.content()
        self.area += content * length
        if length > 0:
            self.lengths[content] = self.lengths.get(content, 0) + length
        if self.is_open:
            self.spells[-1] += length

    def touch(self):
        """The content was just changed."""
        self.is_touched = True
        content = self.content()
        self.most = max(self.most, content)
        if content > 0 and not self.is_open:
            self.spells.append(0)
        self.is_open = content > 0


class Worth:
    """A value that adds up as time goes by."""

    def __init__(self):
        self.now = Fraction(0)
        self.begin()

    def begin(self):
        self.least = self.greatest = self.now
        self.integral = 0
        self.held = []

    def last(self, length):
        self.integral += math.floor(1000 * self.now) * length
        self.held.append((self.now, length))

    def put(self, number):
        self.now = number
        self.least = min(self.least, number)
        self.greatest = max(self.greatest, number)


class SecondBook:
    def __init__(self):
        self.do_clear()

    def do_clear(self):
        self.clock = self.begin = 0
        self.places = {}
        self.tables = {}
        self.tallies = {}
        self.worths = [Worth() for _ in range(64)]

    def place(self, number):
        if number not in self.places:
            self.places[number] = Place()
            self.places[number].last(self.clock - self.begin)
        return self.places[number]

    def pass_time(self, time):
        for one in list(self.places.values()) + self.worths:
            one.last(time - self.clock)
        self.clock = time

    def answer(self, name, *numbers):
        for number, (least, most) in zip(numbers, RANGES[name], strict=True):
            if not least <= number <= most:
                return [-1]
        if name == "quantile" and numbers[1] > numbers[2]:
            return [-1]
        if name in TIMED and numbers[0] < self.clock:
            return [-3]
        refusal = getattr(self, "ask_" + name, lambda *rest: 0)(*numbers)
        if refusal != 0:
            return refusal if isinstance(refusal, list) else [refusal]
        if name in TIMED:
            self.pass_time(numbers[0])
        getattr(self, "do_" + name)(*numbers)
        if name in ("join", "quit", "raise", "lower"):
            self.place(numbers[1]).touch()
        return [0]

    def ask_join(self, time, meter, name, units):
        names = [guest[0] for guest in self.place(meter).inside]
        return -4 if name in names else -5 if len(names) == 300 else 0

    def do_join(self, time, meter, name, units):
        self.place(meter).inside.append((name, units, time))
        self.place(meter).begun += 1

    def ask_quit(self, time, meter, name):
        return 0 if name in [guest[0] for guest in self.place(meter).inside] else -4

    def do_quit(self, time, meter, name):
        place = self.place(meter)
        place.stays += [(units, time - since) for who, units, since in place.inside if who == name]
        place.inside = [guest for guest in place.inside if guest[0] != name]

    def do_raise(self, time, meter, units):
        self.place(meter).loose += units

    def ask_lower(self, time, meter, units):
        return -6 if units > self.place(meter).loose else 0

    def do_lower(self, time, meter, units):
        self.place(meter).loose -= units

    def do_define(self, table, count, low_num, low_den, width_num, width_den):
        self.tables[table] = (count, Fraction(low_num, low_den), Fraction(width_num, width_den))
        self.tallies[table] = []

    def ask_tally(self, table, weight, num, den):
        return -8 if table not in self.tables else -7 if Fraction(num, den).denominator > 1000 else 0

    def do_tally(self, table, weight, num, den):
        self.tallies[table].append((weight, Fraction(num, den)))

    def do_set(self, time, value, num, den):
        self.worths[value].put(Fraction(num, den))

    def do_reset(self, time):
        self.begin = time
        for place in self.places.values():
            place.inside = [(name, units, time) for name, units, _ in place.inside]
        for one in list(self.places.values()) + self.worths:
            one.begin()
        self.tallies = {table: [] for table in self.tables}

    def do_tick(self, time):
        pass

    def ask_merge(self, table, other):
        if table == other:
            return -4
        return 0 if table in self.tables and self.tables[table] == self.tables.get(other) else -8

    def do_merge(self, table, other):
        self.tallies[table] += self.tallies[other]
        self.tallies[other] = []

    def ask_meter(self, meter):
        place = self.place(meter)
        return [
            place.content(), place.most, place.area, place.begun, len(place.stays),
            sum(1 for _, stay in place.stays if stay == 0), sum(stay for _, stay in place.stays),
            sum(units * stay for units, stay in place.stays), len(place.inside), place.loose,
        ]

    def ask_means(self, meter):
        place = self.place(meter)
        lasted = sum(stay for _, stay in place.stays)
        told = []
        for num, den in (
            (place.area, self.clock - self.begin), (lasted, len(place.stays)),
            (lasted, sum(1 for _, stay in place.stays if stay != 0)),
        ):
            told += pair(Fraction(num, den) if den else 0)
        return told

    def ask_levels(self, meter):
        lengths = self.place(meter).lengths
        return [len(lengths)] + [number for level in sorted(lengths.items()) for number in level]

    def ask_inside(self, meter):
        inside = self.place(meter).inside
        return [len(inside)] + [number for guest in inside for number in guest]

    def ask_busy(self, meter):
        spells = self.place(meter).spells
        return [len(spells), max(spells, default=0), sum(spells)]

    def ask_table(self, table):
        if table not in self.tables:
            return -8
        noted = self.tallies[table]
        if not noted:
            return [0, 0] + [0, 1] * 6
        weight = sum(one for one, _ in noted)
        values = [value for _, value in noted]
        mean = sum(one * value for one, value in noted) / weight
        # The variance by its other form: the mean of the squared distances from the mean.
        variance = sum(one * (value - mean) ** 2 for one, value in noted) / weight
        return [len(noted), weight] + pair(mean * weight) + pair(sum(one * value ** 2 for one, value in noted)) + pair(
            min(values)) + pair(max(values)) + pair(mean) + pair(variance)

    def ask_classes(self, table):
        if table not in self.tables:
            return -8
        count, low, width = self.tables[table]
        told = [count + 2, self.weight_from(table, None, low)]
        told += [self.weight_from(table, low + at * width, low + (at + 1) * width) for at in range(count)]
        return told + [self.weight_from(table, low + count * width, None)]

    def weight_from(self, table, begin, end):
        """The weight of the values from the begin on, up to but without the end."""
        return sum(weight for weight, value in self.tallies[table]
                   if (begin is None or value >= begin) and (end is None or value < end))

    def ask_quantile(self, table, part, whole):
        if table not in self.tables:
            return -8
        noted = self.tallies[table]
        if not noted:
            return -10
        needed = part * sum(weight for weight, _ in noted)
        fitting = [bound for _, bound in noted
                   if whole * sum(weight for weight, value in noted if value <= bound) >= needed]
        return pair(min(fitting))

    def ask_below(self, table, num, den):
        if table not in self.tables:
            return -8
        bound = Fraction(num, den)
        noted = self.tallies[table]
        return [self.weight_from(table, None, bound), sum(weight for weight, value in noted if value == bound)]

    def ask_value(self, value):
        worth = self.worths[value]
        time = self.clock - self.begin
        mean = Fraction(worth.integral, 1000 * time) if time else 0
        return pair(worth.now) + pair(worth.least) + pair(worth.greatest) + [worth.integral] + pair(mean)

    def ask_above(self, value, num, den):
        return [sum(length for member, length in self.worths[value].held if member >= Fraction(num, den))]

    def ask_clock(self):
        return [self.clock, self.begin]

    def ask_live(self):
        found = [number for number, place in self.places.items() if place.is_touched or place.content()]
        return [len(found)] + sorted(found)


class Drawer:
    """Draws calls, most of them small enough that they meet one another."""

    def __init__(self, seed):
        self.source = random.Random(seed)
        self.time = 0
        self.step = self.source.choice([1, 3, 1000, BIG // 500])
        # Small numbers let the calls meet: few meters and tables, and a content that comes back to 0.
        self.mosts = self.source.choice([[1], [1, 2], [2, 4]])
        self.great = self.source.choice([0, 0.3])

    def number(self, ends, most):
        least, greatest = ends
        chance = self.source.random()
        if chance < 0.01:
            return self.source.choice([least - 1, greatest + 1, least, greatest])
        return self.source.randint(max(least, -most), min(greatest, most))

    def draw(self):
        names = list(RANGES)
        changes = [9, 6, 4, 4, 1, 9, 5, 0.3, 2, 1]
        questions = [2, 2, 2, 2, 2, 3, 3, 3, 3, 3, 3, 1, 1]
        name = self.source.choices(names, changes + questions + [0.1])[0]
        numbers = [self.number(ends, self.source.choice(self.mosts)) for ends in RANGES[name]]
        if name in TIMED:
            numbers[0] = self.time + self.source.choice([0, 0, 0, 1, 1, self.step, -1])
            self.time = max(self.time, numbers[0])
        if name in ("join", "raise", "tally", "set", "below", "above") and self.source.random() < self.great:
            numbers[-1] = self.source.choice([BILLION, BILLION - 1, 1001, 1000, 12345, 7, 9])
        if name in ("tally", "set", "below", "above") and self.source.random() < 0.3:
            numbers[-2] = self.source.choice([-BIG, BIG, -1000, 999, -25, 10, 3000])
        if name == "define" and self.source.random() < 0.6:
            numbers[1:] = self.source.choice([[4, -1, 2, 3, 4], [4, -2, 4, 6, 8], [4, -1, 2, 6, 8]])
        if name == "clear":
            self.time = 0
        return (name, *numbers)


class TestDrawn(unittest.TestCase):
    def test_drawn_calls(self):
        for seed in range(150):
            drawer = Drawer(seed)
            calls = [drawer.draw() for _ in range(400)]
            second = SecondBook()
            expected = [second.answer(*call) for call in calls]
            found = run(*calls)
            if found != expected:
                at = [one == other for one, other in zip(found, expected)].index(False)
                self.fail(f"seed {seed}, call {at}: {calls[at]} gave {found[at]}, expected {expected[at]}")

    def test_the_draw_meets_every_answer(self):
        seen = set()
        for seed in range(150):
            drawer = Drawer(seed)
            second = SecondBook()
            for _ in range(400):
                call = drawer.draw()
                answer = second.answer(*call)
                seen.add((call[0], answer[0] if len(answer) == 1 else "told"))
        for pair in (("join", -4), ("quit", -4), ("lower", -6), ("tally", -7), ("tally", -8), ("merge", -4),
                     ("merge", -8), ("merge", 0), ("reset", -3), ("reset", 0), ("set", -1), ("meter", "told"),
                     ("quantile", -1), ("quantile", -8), ("quantile", -10), ("quantile", "told"), ("table", -8),
                     ("table", "told"),
                     ("classes", -8), ("classes", "told"), ("below", -8), ("below", "told"), ("levels", "told"),
                     ("inside", "told"), ("inside", 0), ("live", "told"), ("above", -1), ("clear", 0)):
            self.assertIn(pair, seen)


if __name__ == "__main__":
    unittest.main()
