"""The least that a sum is at any placing that fits some rows."""

from springframe.clashes import fitted
from springframe.parts import NOUGHT
from springframe.rows import MUST, check_many


def least(rows, unknowns, one):
    """("least", placing, prices), or ("falls", placing, way) where the sum falls without end."""
    check_many(rows, unknowns)
    musts = [number for number, other in enumerate(rows) if other[3] == MUST]
    sheet = fitted(rows, unknowns, musts)
    way = sheet.settle(sheet.sum_costs(one[0]))
    if way is not None:
        return ("falls", sheet.placing(), way)
    prices = [NOUGHT] * len(rows)
    for number, price in zip(musts, sheet.paper(1)[0]):
        prices[number] = price
    return ("least", sheet.placing(), prices)
