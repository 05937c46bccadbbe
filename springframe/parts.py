"""Fractions: tuples (top, bottom) in lowest terms, the bottom from 1 on."""

from springframe.errors import NoPart

NOUGHT = (0, 1)


def part(top, bottom):
    """The fraction of any two whole numbers, the second not 0."""
    if bottom == 0:
        raise NoPart("no fraction has the bottom 0")
    divisor = greatest_divisor(abs(top), abs(bottom))
    if bottom < 0:
        # Dividing by a number below 0 brings the bottom above 0 and keeps the fraction.
        divisor = -divisor
    return (top // divisor, bottom // divisor)


def greatest_divisor(one, other):
    """The greatest number that divides both, which are not below 0 and not both 0."""
    while other != 0:
        remainder = one % other
        one = other
        other = remainder
    return one


def plus(one, other):
    """Both together."""
    return part(one[0] * other[1] + other[0] * one[1], one[1] * other[1])


def minus(one, other):
    """The one less the other."""
    return part(one[0] * other[1] - other[0] * one[1], one[1] * other[1])


def times(one, other):
    """The one times the other."""
    return part(one[0] * other[0], one[1] * other[1])


def over(one, other):
    """The one over the other, which is not 0."""
    if other[0] == 0:
        raise NoPart("nothing is told over 0")
    return part(one[0] * other[1], one[1] * other[0])


def under(one, other):
    """Whether the one is less than the other."""
    # Bottoms are above 0, so multiplying by both keeps the order.
    return one[0] * other[1] < other[0] * one[1]
