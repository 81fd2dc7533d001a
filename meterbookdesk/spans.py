"""Spans: what was noted at one moment after another, and how long each lasted.

A moment is a pair of a time and what holds from then on; a span is a pair of what holds and a length.
"""


def spans_of(moments, clock):
    """One span for each moment: up to the next one, the last up to the clock."""
    ends = [moment[0] for moment in moments[1:]]
    ends.append(clock)
    return [(moment[1], end - moment[0]) for moment, end in zip(moments, ends)]


def area_of(spans):
    """The sum of content times length."""
    return sum([content * length for content, length in spans])


def lengths_by_content(spans):
    """Under each content how long it lasted in all."""
    lengths = {}
    for content, length in spans:
        lengths[content] = lengths.get(content, 0) + length
    return lengths


def spells_of(spans):
    """The length of each longest run of spans with a content above 0."""
    spells = []
    is_busy = False
    for content, length in spans:
        if content > 0 and is_busy:
            spells[-1] += length
        elif content > 0:
            spells.append(length)
        # A span with content 0 ends the spell even where its length is 0.
        is_busy = content > 0
    return spells
