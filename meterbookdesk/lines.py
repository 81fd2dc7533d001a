"""A value's line as spans: pairs of a member (a fraction) and how long it held."""

from meterbookdesk.ratio import is_less


def integral_of(spans):
    """The sum of each member's whole thousandths, taken down, times how long it held."""
    return sum([(1000 * member[0] // member[1]) * length for member, length in spans])


def length_from(spans, bound):
    """How long the members that aren't less than the bound held in all."""
    return sum([length for member, length in spans if not is_less(member, bound)])
