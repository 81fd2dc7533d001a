"""All that one book holds."""

from meterbookdesk.meters import Meter

METER_COUNT = 256
TABLE_COUNT = 64
VALUE_COUNT = 64


class Book:
    """A book, new at first."""

    def __init__(self):
        self.renew()

    def renew(self):
        """Make the book new."""
        self.clock = 0
        self.reset_time = 0
        self.meters = [Meter() for number in range(METER_COUNT)]
        # None stands for an undefined table.
        self.tables = [None for number in range(TABLE_COUNT)]
        # Each value's line: pairs of a time and the fraction from then on, the reset's first.
        self.lines = [[(0, (0, 1))] for number in range(VALUE_COUNT)]
