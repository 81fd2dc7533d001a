"""The calls that change: each answers DONE or a refusal, and changes nothing if it refuses.

Ranges, the time and the clock are seen to by who calls `change`.
"""

from meterbookdesk.ratio import lowest
from meterbookdesk.refusals import DONE, FULL, NO_LIKE_TABLE, NOT_LOOSE, TOO_FINE, WRONG_PARTNER
from meterbookdesk.tables import Table

MOST_GUESTS = 300
FINEST_DENOMINATOR = 1000


def do_join(book, numbers):
    meter = book.meters[numbers[1]]
    if numbers[2] in meter.guests:
        return WRONG_PARTNER
    if len(meter.guests) >= MOST_GUESTS:
        return FULL
    meter.admit(numbers[0], numbers[2], numbers[3])
    return DONE


def do_quit(book, numbers):
    meter = book.meters[numbers[1]]
    if numbers[2] not in meter.guests:
        return WRONG_PARTNER
    meter.dismiss(numbers[0], numbers[2])
    return DONE


def do_raise(book, numbers):
    book.meters[numbers[1]].shift_loose(numbers[0], numbers[2])
    return DONE


def do_lower(book, numbers):
    meter = book.meters[numbers[1]]
    if meter.loose < numbers[2]:
        return NOT_LOOSE
    meter.shift_loose(numbers[0], -numbers[2])
    return DONE


def do_define(book, numbers):
    first_bound = lowest(numbers[2], numbers[3])
    width = lowest(numbers[4], numbers[5])
    book.tables[numbers[0]] = Table(numbers[1], first_bound, width)
    return DONE


def do_tally(book, numbers):
    table = book.tables[numbers[0]]
    if table is None:
        return NO_LIKE_TABLE
    value = lowest(numbers[2], numbers[3])
    if value[1] > FINEST_DENOMINATOR:
        return TOO_FINE
    table.tallies.append((numbers[1], value))
    return DONE


def do_set(book, numbers):
    book.lines[numbers[1]].append((numbers[0], lowest(numbers[2], numbers[3])))
    return DONE


def do_reset(book, numbers):
    time = numbers[0]
    book.reset_time = time
    for meter in book.meters:
        meter.note_anew(time)
    for table in book.tables:
        if table is not None:
            table.tallies = []
    book.lines = [[(time, line[-1][1])] for line in book.lines]
    return DONE


def do_tick(book, numbers):
    return DONE


def do_merge(book, numbers):
    if numbers[0] == numbers[1]:
        return WRONG_PARTNER
    table = book.tables[numbers[0]]
    other = book.tables[numbers[1]]
    if table is None or other is None:
        return NO_LIKE_TABLE
    if not table.is_like(other):
        return NO_LIKE_TABLE
    table.tallies.extend(other.tallies)
    other.tallies = []
    return DONE


def do_clear(book, numbers):
    book.renew()
    return DONE


CHANGES = {
    0: do_join,
    1: do_quit,
    2: do_raise,
    3: do_lower,
    4: do_define,
    5: do_tally,
    6: do_set,
    7: do_reset,
    8: do_tick,
    9: do_merge,
    23: do_clear,
}


def is_change(place):
    """Whether the place is that of a call that changes."""
    return place in CHANGES


def change(book, place, numbers):
    """Do the call; its numbers are in range and its time isn't before the clock."""
    return CHANGES[place](book, numbers)
