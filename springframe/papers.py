"""Papers: what shows how much a goal must be at the least, and whether weights show a clash."""

from springframe.errors import NoPaper
from springframe.parts import NOUGHT, minus, plus, times, under
from springframe.rows import MUST


def bound(rows, unknowns, settled, goal, paper):
    """How much the goal is at the least, by a paper that holds."""
    if not holds(rows, unknowns, settled, goal, paper):
        raise NoPaper("this paper does not hold")
    total = weighed(paper[0], [one[2] for one in rows])
    return minus(total, weighed(paper[1], [pair[1] for pair in settled]))


def holds(rows, unknowns, settled, goal, paper):
    """Whether the paper shows anything of the goal."""
    prices = paper[0]
    shares = paper[1]
    if len(prices) != len(rows) or len(shares) != len(settled):
        return False
    if any([under(share, NOUGHT) for share in shares]) or not signs_good(rows, prices):
        return False
    for one, price in zip(rows, prices):
        room = times((one[4], 1), counted(settled, shares, goal, one[3]))
        if one[3] != MUST and (under(room, price) or under(price, minus(NOUGHT, room))):
            return False
    for unknown in unknowns:
        if under(counted(settled, shares, goal, unknown), column(rows, prices, unknown)):
            return False
    return True


def counted(settled, shares, goal, thing):
    """How often a rank or unknown counts: once where it is the goal, and by the shares of the settled goals it is."""
    count = (1, 1) if thing == goal else NOUGHT
    for pair, share in zip(settled, shares):
        if pair[0] == thing:
            count = plus(count, share)
    return count


def signs_good(rows, prices):
    """Whether no price of a "least" is below 0 and none of a "most" above."""
    for one, price in zip(rows, prices):
        if one[1] == "least" and under(price, NOUGHT):
            return False
        if one[1] == "most" and under(NOUGHT, price):
            return False
    return True


def weighed(weights, numbers):
    """The weights times the numbers, together."""
    total = NOUGHT
    for weight, number in zip(weights, numbers):
        total = plus(total, times(weight, number))
    return total


def column(rows, prices, unknown):
    """What the prices times the rows' fractions for the unknown come to."""
    return weighed(prices, [one[0].get(unknown, NOUGHT) for one in rows])


def shows_clash(rows, unknowns, numbers, weights):
    """Whether the weights, for rows of these numbers, show that the rows clash."""
    if len(numbers) != len(weights) or not rising_musts(rows, numbers):
        return False
    chosen = [rows[number] for number in numbers]
    if not signs_good(chosen, weights):
        return False
    if any([under(NOUGHT, column(chosen, weights, unknown)) for unknown in unknowns]):
        return False
    return weighed(weights, [one[2] for one in chosen]) == (1, 1)


def rising_musts(rows, numbers):
    """Whether the numbers rise and each is that of a must."""
    ahead = -1
    for number in numbers:
        if not ahead < number < len(rows) or rows[number][3] != MUST:
            return False
        ahead = number
    return True
