"""Sums: tuples (parts, rest), parts a dict from unknowns to fractions other than 0."""

from springframe.parts import NOUGHT, plus, times

MINUS_ONE = (-1, 1)


def made(parts, rest):
    """The sum of these parts and this rest; unknowns with the fraction 0 are left out."""
    kept = {}
    for unknown, number in parts.items():
        if number[0] != 0:
            kept[unknown] = number
    return (kept, rest)


def added(one, other):
    """Both sums together."""
    together = dict(one[0])
    for unknown, number in other[0].items():
        together[unknown] = plus(together.get(unknown, NOUGHT), number)
    return made(together, plus(one[1], other[1]))


def reduced(one, other):
    """The one less the other."""
    return added(one, scaled(other, MINUS_ONE))


def scaled(one, number):
    """The sum times a fraction."""
    grown = {}
    for unknown, fraction in one[0].items():
        grown[unknown] = times(fraction, number)
    return made(grown, times(one[1], number))


def put_in(one, unknown, other):
    """The one with the other sum put for the unknown."""
    # The unknown is taken out first: the other sum may have it too, and that stays.
    without = dict(one[0])
    number = without.pop(unknown, NOUGHT)
    return added((without, one[1]), scaled(other, number))


def value_at(one, placing):
    """What the sum stands for at a placing that has all its unknowns."""
    total = one[1]
    for unknown, number in one[0].items():
        total = plus(total, times(number, placing[unknown]))
    return total


def unknowns(one):
    """The unknowns of the sum, sorted as texts."""
    return sorted(one[0])
