"""A defined table: its classes and the tallies noted in it."""


class Table:
    """One table of the book; bound and width are fractions in lowest terms."""

    def __init__(self, class_count, first_bound, width):
        self.class_count = class_count
        self.first_bound = first_bound
        self.width = width
        # Pairs of a weight and a value (a fraction in lowest terms), in the order of noting.
        self.tallies = []

    def is_like(self, other):
        """Whether the other table has the same classes."""
        # Fractions in lowest terms are equal by their worth just where their numbers are.
        return (
            self.class_count == other.class_count
            and self.first_bound == other.first_bound
            and self.width == other.width
        )
