"""Fractions as pairs (numerator, denominator): lowest terms, denominator above 0."""


def common_divisor(first, second):
    """The greatest common divisor of two whole numbers that aren't below 0."""
    while second != 0:
        rest = first % second
        first = second
        second = rest
    return first


def lowest(num, den):
    """num/den in lowest terms; den is above 0."""
    divisor = common_divisor(abs(num), den)
    return (num // divisor, den // divisor)


def quotient(num, den):
    """num/den in lowest terms, or 0 where den is 0."""
    if den == 0:
        return (0, 1)
    return lowest(num, den)


def is_less(first, second):
    """Whether the first fraction is less than the second by its worth."""
    return first[0] * second[1] < second[0] * first[1]


def least_of(fractions):
    """The least of one or more fractions."""
    least = fractions[0]
    for fraction in fractions:
        if is_less(fraction, least):
            least = fraction
    return least


def greatest_of(fractions):
    """The greatest of one or more fractions."""
    greatest = fractions[0]
    for fraction in fractions:
        if is_less(greatest, fraction):
            greatest = fraction
    return greatest


def common_denominator(fractions):
    """The least number above 0 that each denominator divides."""
    common = 1
    for fraction in fractions:
        common *= fraction[1] // common_divisor(common, fraction[1])
    return common


def sum_of(fractions):
    """The sum of the fractions, which need not be in lowest terms."""
    # One common denominator for all: to reduce after each step would take far longer.
    common = common_denominator(fractions)
    return lowest(sum([fraction[0] * (common // fraction[1]) for fraction in fractions]), common)


def minus(first, second):
    """The first fraction less the second."""
    return lowest(first[0] * second[1] - second[0] * first[1], first[1] * second[1])


def square(fraction):
    """The fraction times itself; in lowest terms, as the fraction is."""
    return (fraction[0] * fraction[0], fraction[1] * fraction[1])
