"""Rows whose numbers go by a width, laid out as the width grows."""

from springframe.laying import goal_costs, placed
from springframe.parts import NOUGHT, minus, part, plus, times, under
from springframe.tables import Sheet, common_bottom, whole_numbers

MOST_PIECES = 40
# How much wider it is than at the start is one unknown more; a text without signs is no other unknown's.
WIDER = ""


def rows_at(growing, width):
    """The rows that the growing rows are at the width."""
    return [(dict(one[0]), one[1], plus(one[2], times(pace, width)), one[3], one[4]) for one, pace in growing]


def widening_row(one, pace):
    """The row, by its number at the start, that asks for the number at each greater width."""
    parts = dict(one[0])
    parts[WIDER] = minus(NOUGHT, pace)
    return (parts, one[1], one[2], one[3], one[4])


class Walk:
    """Rows laid out at the start, and then at ever greater widths.

    Every goal is least at a corner where no column makes the goals, one behind the other, fall. That does not hang on
    the width: so the corner goes along with it in a straight line until one of its columns would fall below 0. There
    the line of that column is solved for another one.
    """

    def __init__(self, rows, paces, unknowns):
        sheet = Sheet([widening_row(one, pace) for one, pace in zip(rows, paces)], list(unknowns) + [WIDER])
        self.table = sheet.table
        self.wider = len(unknowns)
        # No goal shuts this column: it stays shut whatever is settled.
        self.table.shut[self.wider] = None
        self.unknowns = list(unknowns)
        self.goals = []
        for costs in goal_costs(sheet, unknowns):
            sheet.settle(costs)
            self.goals.append(whole_numbers(costs, common_bottom(costs)))

    def clashes(self):
        """Whether the musts are missed as soon as it gets wider."""
        return self.table.costs_left(self.goals[0])[self.wider] > 0

    def paces(self):
        """How much the unknowns grow with the width."""
        told = {}
        for place, unknown in enumerate(self.unknowns):
            told[unknown] = self.table.pace(place, self.wider)
        return told

    def reach(self, most):
        """How much wider than at the start it may get, up to the most, until a column would fall below 0."""
        number = self.table.first_stop(self.wider)
        if number is None:
            return most
        line = self.table.lines[number]
        stop = part(line[-1], line[self.wider])
        return stop if under(stop, most) else most

    def go_on(self):
        """Solves the line whose column is the first to fall below 0, if there is one, for another column."""
        number = self.table.first_stop(self.wider)
        if number is not None:
            self.table.turn(number, self.next_column(number))

    def next_column(self, number):
        """The column for which the line can be solved without making any other one let the goals fall."""
        line = self.table.lines[number]
        columns = [column for column, entry in enumerate(line[:-1]) if entry < 0 and column != self.wider]
        # Of two columns that cost the same in every goal one would be free then; but what is settled leaves none free.
        for costs in self.goals:
            if len(columns) > 1:
                columns = cheapest(columns, self.table.costs_left(costs), line)
        return columns[0]


def cheapest(columns, left, line):
    """Those of the columns for which the line's end rises at the least cost; the line's entries there are below 0."""
    best = columns[0]
    for column in columns:
        if left[column] * line[best] > left[best] * line[column]:
            best = column
    return [column for column in columns if left[column] * line[best] == left[best] * line[column]]


def add_piece(pieces, to, paces):
    """Adds a piece, or lets the last one go on where it has the same paces."""
    if pieces and pieces[-1][1] == paces:
        pieces.pop()
    pieces.append((to, paces))


def growth(growing, unknowns, start, stop):
    """(placing, pieces): the placing at start, and the tuples (to, paces) by which it goes on to stop."""
    rows = rows_at(growing, start)
    # Laying out at start refuses what is to be refused: too many rows or unknowns, then a clash.
    placing = placed(rows, unknowns)
    walk = Walk(rows, [pace for one, pace in growing], unknowns)
    most = minus(stop, start)
    pieces = []
    wider = NOUGHT
    # One piece more than may be told is looked for: only its paces show that the one ahead ends.
    while under(wider, most) and len(pieces) <= MOST_PIECES and not walk.clashes():
        to = walk.reach(most)
        if under(wider, to):
            add_piece(pieces, plus(start, to), walk.paces())
        wider = to
        walk.go_on()
    return (placing, pieces[:MOST_PIECES])


def moved(placing, paces, step):
    """The placing when the width is greater by a step."""
    told = {}
    for unknown, number in placing.items():
        told[unknown] = plus(number, times(paces[unknown], step))
    return told


def along(told, start, width):
    """The placing at the width by what growth told, None behind the last piece."""
    placing = dict(told[0])
    begin = start
    for to, paces in told[1]:
        if not under(begin, width):
            return placing
        end = width if under(width, to) else to
        placing = moved(placing, paces, minus(end, begin))
        begin = to
    return None if under(begin, width) else placing
