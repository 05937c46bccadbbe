"""Rows: tuples (parts, kind, number, rank, weight), each asking something of a placing."""

from springframe.errors import NoRank, NoWish, TooMany
from springframe.parts import NOUGHT, minus, plus, times, under
from springframe.sums import made, value_at

KINDS = ("least", "most", "just")
MUST = 0
MOST_RANK = 4
MOST_WEIGHT = 1000000
MOST_ROWS = 16
MOST_UNKNOWNS = 8


def row(parts, kind, number, rank=0, weight=1):
    """The row of these five things; parts that are 0 are left out."""
    if kind not in KINDS:
        raise NoWish("a row asks for least, most or just")
    if not MUST <= rank <= MOST_RANK or not 1 <= weight <= MOST_WEIGHT:
        raise NoRank("a rank goes from 0 to 4, a weight from 1 to 10 ** 6")
    return (made(parts, number)[0], kind, number, rank, weight)


def sum_at(one, placing):
    """What the row's parts come to at the placing."""
    return value_at((one[0], NOUGHT), placing)


def missed(one, placing):
    """By how much the row is missed at the placing, 0 where it is kept."""
    lead = minus(sum_at(one, placing), one[2])
    if under(lead, NOUGHT) and one[1] != "most":
        return minus(NOUGHT, lead)
    if under(NOUGHT, lead) and one[1] != "least":
        return lead
    return NOUGHT


def fits(rows, placing):
    """Whether the placing tells nothing below 0 and keeps every must."""
    if any([under(told, NOUGHT) for told in placing.values()]):
        return False
    return all([missed(one, placing) == NOUGHT for one in rows if one[3] == MUST])


def goal_at(rows, goal, placing):
    """What the goal, a rank or an unknown, is at the placing."""
    if isinstance(goal, str):
        return placing[goal]
    total = NOUGHT
    for one in rows:
        if one[3] == goal:
            total = plus(total, times((one[4], 1), missed(one, placing)))
    return total


def check_many(rows, unknowns):
    """Refuses more rows or unknowns than may be asked about."""
    if len(rows) > MOST_ROWS or len(unknowns) > MOST_UNKNOWNS:
        raise TooMany("there are at most 16 rows and 8 unknowns")
