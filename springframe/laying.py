"""Laying out: the goals settled one behind the other until nothing is open."""

from springframe.clashes import fitted
from springframe.rows import MOST_RANK, MUST, check_many

ONE = (1, 1)


def goals_of(unknowns):
    """The goals in the order in which they are settled."""
    return list(range(1, MOST_RANK + 1)) + list(unknowns)


def goal_costs(sheet, unknowns):
    """What the sheet's columns cost in what is missed of the musts, and then in each goal."""
    ranks = [sheet.rank_costs(rank) for rank in range(MUST, MOST_RANK + 1)]
    return ranks + [sheet.sum_costs({unknown: ONE}) for unknown in unknowns]


def settled_sheet(rows, unknowns):
    """The sheet of the rows with every goal settled; in front of the goals are the musts."""
    check_many(rows, unknowns)
    sheet = fitted(rows, unknowns, list(range(len(rows))))
    for costs in goal_costs(sheet, unknowns)[1:]:
        sheet.settle(costs)
    return sheet


def placed(rows, unknowns):
    """The placing that laying out the rows tells."""
    return settled_sheet(rows, unknowns).placing()


def laid(rows, unknowns):
    """(placing, settled, papers): the placing, the goals with their values, and what shows that none can be less."""
    sheet = settled_sheet(rows, unknowns)
    settled = []
    papers = []
    for place, goal in enumerate(goals_of(unknowns), start=1):
        settled.append((goal, sheet.value(place)))
        prices_and_shares = sheet.paper(place)
        # The first share is that of the musts, which are kept anyhow and so are no goal.
        papers.append((prices_and_shares[0], prices_and_shares[1][1:]))
    return (sheet.placing(), settled, papers)


def spared(rows, unknowns, numbers):
    """For each of these numbers of musts a placing that keeps the others."""
    check_many(rows, unknowns)
    placings = []
    for number in numbers:
        others = [other for other in numbers if other != number]
        placings.append(fitted(rows, unknowns, others).placing())
    return placings
