"""The questions: each answers a list of whole numbers and changes nothing.

Ranges are seen to by who calls `question`.
"""

from meterbookdesk.lines import integral_of, length_from
from meterbookdesk.ratio import greatest_of, least_of, lowest, minus, quotient, square
from meterbookdesk.refusals import NO_LIKE_TABLE, NO_TALLIES
from meterbookdesk.spans import area_of, lengths_by_content, spans_of, spells_of


def tell_meter(book, numbers):
    meter = book.meters[numbers[0]]
    spans = meter.spans(book.clock)
    return [
        meter.content,
        max([span[0] for span in spans]),
        area_of(spans),
        meter.begun,
        meter.ended,
        meter.ended_at_once,
        meter.lasted,
        meter.units_lasted,
        len(meter.guests),
        meter.loose,
    ]


def tell_means(book, numbers):
    meter = book.meters[numbers[0]]
    area = area_of(meter.spans(book.clock))
    return numbers_of([
        quotient(area, book.clock - book.reset_time),
        quotient(meter.lasted, meter.ended),
        quotient(meter.lasted, meter.ended - meter.ended_at_once),
    ])


def tell_levels(book, numbers):
    lengths = lengths_by_content(book.meters[numbers[0]].spans(book.clock))
    contents = [content for content in sorted(lengths) if lengths[content] > 0]
    told = [len(contents)]
    for content in contents:
        told.append(content)
        told.append(lengths[content])
    return told


def tell_inside(book, numbers):
    guests = book.meters[numbers[0]].guests
    told = [len(guests)]
    for name, guest in guests.items():
        told.append(name)
        told.extend(guest)
    return told


def tell_busy(book, numbers):
    spells = spells_of(book.meters[numbers[0]].spans(book.clock))
    return [len(spells), max([0] + spells), sum(spells)]


def tell_table(book, numbers):
    table = book.tables[numbers[0]]
    if table is None:
        return [NO_LIKE_TABLE]
    if len(table.tallies) == 0:
        return [0, 0] + numbers_of([(0, 1)] * 6)
    weight = table.weight_in_all()
    values = [tally[1] for tally in table.tallies]
    first = table.first_sum()
    second = table.second_sum()
    mean = lowest(first[0], first[1] * weight)
    variance = minus(lowest(second[0], second[1] * weight), square(mean))
    return [len(values), weight] + numbers_of([first, second, least_of(values), greatest_of(values), mean, variance])


def tell_classes(book, numbers):
    table = book.tables[numbers[0]]
    if table is None:
        return [NO_LIKE_TABLE]
    weights = table.class_weights()
    return [len(weights)] + weights


def tell_quantile(book, numbers):
    table = book.tables[numbers[0]]
    if table is None:
        return [NO_LIKE_TABLE]
    if len(table.tallies) == 0:
        return [NO_TALLIES]
    return list(table.quantile(numbers[1], numbers[2]))


def tell_below(book, numbers):
    table = book.tables[numbers[0]]
    if table is None:
        return [NO_LIKE_TABLE]
    bound = lowest(numbers[1], numbers[2])
    return [table.weight_below(bound), table.weight_at(bound)]


def tell_value(book, numbers):
    line = book.lines[numbers[0]]
    members = [moment[1] for moment in line]
    integral = integral_of(spans_of(line, book.clock))
    told = numbers_of([members[-1], least_of(members), greatest_of(members)])
    told.append(integral)
    told.extend(quotient(integral, 1000 * (book.clock - book.reset_time)))
    return told


def tell_above(book, numbers):
    spans = spans_of(book.lines[numbers[0]], book.clock)
    return [length_from(spans, (numbers[1], numbers[2]))]


def tell_clock(book, numbers):
    return [book.clock, book.reset_time]


def tell_live(book, numbers):
    found = [number for number, meter in enumerate(book.meters) if meter.is_live()]
    return [len(found)] + found


def numbers_of(fractions):
    """The numbers of all fractions, one behind another."""
    told = []
    for fraction in fractions:
        told.extend(fraction)
    return told


QUESTIONS = {
    10: tell_meter,
    11: tell_means,
    12: tell_levels,
    13: tell_inside,
    14: tell_busy,
    15: tell_table,
    16: tell_classes,
    17: tell_quantile,
    18: tell_below,
    19: tell_value,
    20: tell_above,
    21: tell_clock,
    22: tell_live,
}


def question(book, place, numbers):
    """Answer the question; its numbers are in range."""
    return QUESTIONS[place](book, numbers)
