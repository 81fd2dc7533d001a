"""A defined table: its classes and the tallies noted in it."""

from meterbookdesk.ratio import common_denominator, is_less, sum_of


class Table:
    """One table of the book; bound and width are fractions in lowest terms."""

    def __init__(self, class_count, first_bound, width):
        self.class_count = class_count
        self.first_bound = first_bound
        self.width = width
        # Pairs of a weight and a value (a fraction in lowest terms), in the order of noting.
        self.tallies = []

    def is_like(self, other):
        """Whether the other table has the same classes."""
        # Fractions in lowest terms are equal by their worth just where their numbers are.
        return (
            self.class_count == other.class_count
            and self.first_bound == other.first_bound
            and self.width == other.width
        )

    def slot_of(self, value):
        """Where the value counts: 0 below the first bound, then the classes, then one slot beyond."""
        low = self.first_bound
        width = self.width
        over_low = value[0] * low[1] - low[0] * value[1]
        # How many whole widths the value lies over the first bound, taken down: below 0 if it lies under it.
        widths = over_low * width[1] // (value[1] * low[1] * width[0])
        return min(max(widths + 1, 0), self.class_count + 1)

    def class_weights(self):
        """The sum of the weights in each slot."""
        weights = [0 for slot in range(self.class_count + 2)]
        for weight, value in self.tallies:
            weights[self.slot_of(value)] += weight
        return weights

    def weight_in_all(self):
        """The sum of all weights."""
        return sum([weight for weight, value in self.tallies])

    def weight_below(self, bound):
        """The sum of the weights of the values less than the bound."""
        return sum([weight for weight, value in self.tallies if is_less(value, bound)])

    def weight_at(self, bound):
        """The sum of the weights of the values equal to the bound, which is in lowest terms."""
        return sum([weight for weight, value in self.tallies if value == bound])

    def first_sum(self):
        """The sum of weight times value."""
        return sum_of([(weight * value[0], value[1]) for weight, value in self.tallies])

    def second_sum(self):
        """The sum of weight times value times value."""
        return sum_of([(weight * value[0] * value[0], value[1] * value[1]) for weight, value in self.tallies])

    def rising_tallies(self):
        """The tallies, those with lesser values first."""
        common = common_denominator([value for weight, value in self.tallies])
        # Over one common denominator the numerators alone tell the order.
        scaled = [(value[0] * (common // value[1]), weight, value) for weight, value in self.tallies]
        return [(weight, value) for numerator, weight, value in sorted(scaled)]

    def quantile(self, part, whole):
        """The least value up to which part/whole of all weight lies; there is a tally."""
        needed = part * self.weight_in_all()
        rising = self.rising_tallies()
        at = 0
        reached = whole * rising[0][0]
        # It ends at the last tally at the latest, since part isn't greater than whole.
        while reached < needed:
            at += 1
            reached += whole * rising[at][0]
        return rising[at][1]
