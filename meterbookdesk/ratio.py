"""Fractions as pairs (numerator, denominator): lowest terms, denominator above 0."""


def common_divisor(first, second):
    """The greatest common divisor of two whole numbers that aren't below 0."""
    while second != 0:
        rest = first % second
        first = second
        second = rest
    return first


def lowest(num, den):
    """num/den in lowest terms; den is above 0."""
    divisor = common_divisor(abs(num), den)
    return (num // divisor, den // divisor)


def quotient(num, den):
    """num/den in lowest terms, or 0 where den is 0."""
    if den == 0:
        return (0, 1)
    return lowest(num, den)
