"""Least sums: equations over whole numbers, and rows written as such equations.

Every step is exact. A table goes from one corner of what its equations leave open to the next, always by the first
column and the first line that will do; so it never comes back to a corner, and comes to an end.
"""

from springframe.parts import NOUGHT, greatest_divisor, minus, over, part, plus, times, under
from springframe.rows import MUST


def common_bottom(fractions):
    """The least whole number that makes each of the fractions whole."""
    bottom = 1
    for fraction in fractions:
        bottom = bottom // greatest_divisor(bottom, fraction[1]) * fraction[1]
    return bottom


def whole_numbers(fractions, bottom):
    """The tops of the fractions over a common bottom."""
    return [fraction[0] * (bottom // fraction[1]) for fraction in fractions]


class Table:
    """Equations between columns, things that are never below 0, each solved for one of them.

    A line has a whole number for each column and, last, what they come to. All of them are read over `bottom`. At the
    corner the columns that no line is solved for are 0.
    """

    def __init__(self, lines, solved):
        """The lines, over 1, and for each the column that it has once and no other line has; no line ends below 0."""
        self.lines = [list(line) for line in lines]
        self.solved = list(solved)
        self.bottom = 1
        self.shut = {}

    def costs_left(self, costs):
        """What a step along each column costs (over the bottom); last, 0 less what the corner costs."""
        left = [cost * self.bottom for cost in costs] + [0]
        for line, column in zip(self.lines, self.solved):
            cost = costs[column]
            if cost != 0:
                left = [one - cost * other for one, other in zip(left, line)]
        return left

    def go_down(self, costs):
        """Goes where the costs are least; tells the column along which they fall without end, None if there is none."""
        column = self.falling(costs)
        while column is not None:
            line = self.first_stop(column)
            if line is None:
                return column
            self.turn(line, column)
            column = self.falling(costs)
        return None

    def falling(self, costs):
        """The first column that is not shut and makes the costs fall, or None."""
        left = self.costs_left(costs)
        for column in range(len(costs)):
            if left[column] < 0 and column not in self.shut:
                return column
        return None

    def first_stop(self, column):
        """The line that lets a step along the column go least far, or None where all let it go on."""
        best = None
        for number, line in enumerate(self.lines):
            if line[column] > 0 and (best is None or self.stops_ahead(number, best, column)):
                best = number
        return best

    def stops_ahead(self, number, best, column):
        """Whether the line of this number stops a step along the column ahead of the best one so far."""
        line = self.lines[number]
        other = self.lines[best]
        one_way = line[-1] * other[column]
        other_way = other[-1] * line[column]
        # Of lines that stop at once the one with the first column goes, lest corners come again.
        return one_way < other_way or (one_way == other_way and self.solved[number] < self.solved[best])

    def turn(self, number, column):
        """Solves the line of this number for another column."""
        turned = self.lines[number]
        if turned[column] < 0:
            turned = [-entry for entry in turned]
        middle = turned[column]
        lines = []
        for line in self.lines:
            entry = line[column]
            # The division leaves nothing over: every entry is a determinant of the entries at the start.
            lines.append([(one * middle - entry * other) // self.bottom for one, other in zip(line, turned)])
        lines[number] = turned
        self.lines = lines
        self.bottom = middle
        self.solved[number] = column

    def shut_rising(self, costs, mark):
        """Shuts, with a mark, the columns that make these costs rise: where they are least, those are 0."""
        left = self.costs_left(costs)
        for column in range(len(costs)):
            if left[column] > 0 and column not in self.shut:
                self.shut[column] = mark
        return left

    def told(self, column):
        """What the column is at the corner."""
        if column not in self.solved:
            return NOUGHT
        return part(self.lines[self.solved.index(column)][-1], self.bottom)

    def pace(self, column, along):
        """How much the column grows with each step along another one."""
        if column == along:
            return (1, 1)
        if column not in self.solved:
            return NOUGHT
        return part(-self.lines[self.solved.index(column)][along], self.bottom)


class Sheet:
    """Rows as a table, and the goals that were settled there one behind the other.

    The columns are the unknowns and, for each row, how far its sum is below its number and how far above. A row is
    written over whole numbers, so both are told by its scale: a scale of 6 counts sixths.
    """

    def __init__(self, rows, unknowns):
        self.rows = list(rows)
        self.unknowns = list(unknowns)
        self.scales = []
        self.settled = []
        lines = []
        solved = []
        for number, one in enumerate(self.rows):
            line = self.line_of(number, one)
            # A line that ends below 0 is turned round; then it is how far the row is above that it is solved for.
            upright = line[-1] >= 0
            lines.append(line if upright else [-entry for entry in line])
            solved.append(self.below(number) if upright else self.above(number))
        self.table = Table(lines, solved)

    def columns(self):
        """How many columns there are."""
        return len(self.unknowns) + 2 * len(self.rows)

    def below(self, number):
        """The column for how far the row of this number is below."""
        return len(self.unknowns) + 2 * number

    def above(self, number):
        """The column for how far the row of this number is above."""
        return len(self.unknowns) + 2 * number + 1

    def line_of(self, number, one):
        """The row as a line of whole numbers: its parts and what it is below, less what it is above, are its number."""
        fractions = [one[0].get(unknown, NOUGHT) for unknown in self.unknowns] + [one[2]]
        scale = common_bottom(fractions)
        entries = whole_numbers(fractions, scale)
        line = entries[:-1] + [0] * (2 * len(self.rows)) + entries[-1:]
        line[self.below(number)] = 1
        line[self.above(number)] = -1
        self.scales.append(scale)
        return line

    def rank_costs(self, rank):
        """What the columns cost in the weighed sum of what is missed of the rank, the musts' rank too."""
        costs = [NOUGHT] * self.columns()
        for number, one in enumerate(self.rows):
            if one[3] == rank:
                cost = part(one[4], self.scales[number])
                if one[1] != "most":
                    costs[self.below(number)] = cost
                if one[1] != "least":
                    costs[self.above(number)] = cost
        return costs

    def sum_costs(self, parts):
        """What the columns cost in a sum of the unknowns."""
        costs = [parts.get(unknown, NOUGHT) for unknown in self.unknowns]
        return costs + [NOUGHT] * (2 * len(self.rows))

    def settle(self, costs):
        """Brings the goal with these costs to its least, for good; None, or where it falls without end, the way."""
        scale = common_bottom(costs)
        numbers = whole_numbers(costs, scale)
        column = self.table.go_down(numbers)
        if column is not None:
            fall = part(-self.table.costs_left(numbers)[column], scale * self.table.bottom)
            return self.way_along(column, fall)
        left = self.table.shut_rising(numbers, len(self.settled))
        self.settled.append([part(entry, scale * self.table.bottom) for entry in left])
        return None

    def way_along(self, column, fall):
        """How the unknowns go along the column while a goal that falls so fast falls by 1."""
        way = {}
        for place, unknown in enumerate(self.unknowns):
            way[unknown] = over(self.table.pace(place, column), fall)
        return way

    def value(self, place):
        """The value of the goal that was settled at this place."""
        return minus(NOUGHT, self.settled[place][-1])

    def placing(self):
        """What the unknowns are now."""
        told = {}
        for place, unknown in enumerate(self.unknowns):
            told[unknown] = self.table.told(place)
        return told

    def paper(self, place):
        """What shows that the goal of this place can be no less: prices of the rows, shares of the goals ahead."""
        left = self.settled[place]
        shares = []
        for ahead in range(place - 1, -1, -1):
            share = self.share_of(left, ahead)
            if share != NOUGHT:
                left = [plus(one, times(share, other)) for one, other in zip(left, self.settled[ahead])]
            shares.append(share)
        return (self.prices(left), list(reversed(shares)))

    def share_of(self, left, ahead):
        """How often the goal settled ahead must be added, lest a column that it shut makes the costs fall."""
        share = NOUGHT
        for column, mark in self.table.shut.items():
            if mark == ahead:
                needed = over(minus(NOUGHT, left[column]), self.settled[ahead][column])
                share = needed if under(share, needed) else share
        return share

    def prices(self, left):
        """What each row is taken by where these costs are left."""
        return [self.price(number, left) for number in range(len(self.rows))]

    def price(self, number, left):
        """What the row is taken by: read from what it costs to be below or above, whichever costs nothing itself."""
        below = left[self.below(number)]
        above = left[self.above(number)]
        kind = self.rows[number][1]
        scale = self.scales[number]
        if kind == "least":
            return times(above, (scale, 1))
        if kind == "most":
            return times(below, (-scale, 1))
        # Both cost the same by themselves, which falls out of the difference.
        return times(minus(above, below), part(scale, 2))


def settled_musts(rows, unknowns):
    """The sheet of the rows, with what is missed of the musts settled ahead of all else."""
    sheet = Sheet(rows, unknowns)
    sheet.settle(sheet.rank_costs(MUST))
    return sheet
