"""A meter: who is in, what is loose, and what was noted since the last reset."""

from meterbookdesk.spans import spans_of


class Meter:
    """One meter of the book."""

    def __init__(self):
        # Under each id its units and since when it is in; a dict keeps the order of coming.
        self.guests = {}
        self.loose = 0
        self.content = 0
        # Pairs of a time and the content behind it: the reset first, then each change, as the calls came.
        self.moments = [(0, 0)]
        self.begun = 0
        self.ended = 0
        self.ended_at_once = 0
        self.lasted = 0
        self.units_lasted = 0

    def admit(self, time, name, units):
        """A visit begins."""
        self.guests[name] = (units, time)
        self.begun += 1
        self.shift_content(time, units)

    def dismiss(self, time, name):
        """The visit of one who is in ends."""
        guest = self.guests.pop(name)
        units = guest[0]
        lasted = time - guest[1]
        self.ended += 1
        if lasted == 0:
            self.ended_at_once += 1
        self.lasted += lasted
        self.units_lasted += units * lasted
        self.shift_content(time, -units)

    def shift_loose(self, time, units):
        """So many more units are loose (fewer, if below 0)."""
        self.loose += units
        self.shift_content(time, units)

    def shift_content(self, time, units):
        """Note that the content changes at this time."""
        self.content += units
        self.moments.append((time, self.content))

    def note_anew(self, time):
        """Forget what was noted; who is in and what is loose stays."""
        self.guests = guests_since(self.guests, time)
        self.moments = [(time, self.content)]
        self.begun = len(self.guests)
        self.ended = 0
        self.ended_at_once = 0
        self.lasted = 0
        self.units_lasted = 0

    def spans(self, clock):
        """Pairs of a content and how long it lasted, one for each span up to the clock."""
        return spans_of(self.moments, clock)

    def is_live(self):
        """Whether somebody is in, something is loose, or the content changed since the last reset."""
        # What is in or loose makes the content more than 0; the first moment is the reset's.
        return self.content > 0 or len(self.moments) > 1


def guests_since(guests, time):
    """The same guests in the same order, all since that time."""
    moved = {}
    for name, guest in guests.items():
        moved[name] = (guest[0], time)
    return moved
