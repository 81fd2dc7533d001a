"""The questions: each answers a list of whole numbers and changes nothing.

Ranges are seen to by who calls `question`.
"""

from meterbookdesk.ratio import quotient


def area_of(spans):
    """The sum of content times length."""
    return sum([content * length for content, length in spans])


def tell_meter(book, numbers):
    meter = book.meters[numbers[0]]
    spans = meter.spans(book.clock)
    return [
        meter.content,
        max([span[0] for span in spans]),
        area_of(spans),
        meter.begun,
        meter.ended,
        meter.ended_at_once,
        meter.lasted,
        meter.units_lasted,
        len(meter.guests),
        meter.loose,
    ]


def tell_means(book, numbers):
    meter = book.meters[numbers[0]]
    area = area_of(meter.spans(book.clock))
    told = []
    told.extend(quotient(area, book.clock - book.reset_time))
    told.extend(quotient(meter.lasted, meter.ended))
    told.extend(quotient(meter.lasted, meter.ended - meter.ended_at_once))
    return told


QUESTIONS = {
    10: tell_meter,
    11: tell_means,
}


def question(book, place, numbers):
    """Answer the question; its numbers are in range."""
    return QUESTIONS[place](book, numbers)
