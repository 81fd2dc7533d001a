"""The calls' forms: which numbers stand behind each place, and their ranges."""

FORMS = {
    0: ("time", "meter", "name", "amount"),
    1: ("time", "meter", "name"),
    2: ("time", "meter", "amount"),
    3: ("time", "meter", "amount"),
    4: ("table", "class count", "numerator", "denominator", "width numerator", "denominator"),
    5: ("table", "amount", "numerator", "denominator"),
    6: ("time", "value", "numerator", "denominator"),
    7: ("time",),
    8: ("time",),
    9: ("table", "table"),
    10: ("meter",),
    11: ("meter",),
    12: ("meter",),
    13: ("meter",),
    14: ("meter",),
    15: ("table",),
    16: ("table",),
    17: ("table", "part", "whole"),
    18: ("table", "numerator", "denominator"),
    19: ("value",),
    20: ("value", "numerator", "denominator"),
    21: (),
    22: (),
    23: (),
}

QUANTILE = 17

# A width's numerator begins at 1: the denominator is above 0, so the width is above 0 just then.
RANGES = {
    "time": (0, 1000000000000000000),
    "meter": (0, 255),
    "name": (1, 1000000000),
    "amount": (1, 1000000000),
    "table": (0, 63),
    "class count": (1, 100),
    "value": (0, 63),
    "numerator": (-1000000000000000000, 1000000000000000000),
    "denominator": (1, 1000000000000000000),
    "width numerator": (1, 1000000000000000000),
    "part": (0, 1000000000),
    "whole": (1, 1000000000),
}


def count_of_numbers(place):
    """How many numbers stand behind the place."""
    return len(FORMS[place])


def has_time(place):
    """Whether the call has a t, which is then its first number."""
    return "time" in FORMS[place]


def are_in_range(place, numbers):
    """Whether each number of the call is in its range."""
    for word, number in zip(FORMS[place], numbers):
        ends = RANGES[word]
        if number < ends[0] or number > ends[1]:
            return False
    # The greatest part is no fixed number: it is the whole that stands behind it in the same call.
    return place != QUANTILE or numbers[1] <= numbers[2]
