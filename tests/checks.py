"""What the tests add up by themselves: placings, prices, ways, clashes, papers, growth, by Python's own fractions."""

import random
from fractions import Fraction

from springframe.errors import Clash
from springframe.laying import laid
from springframe.rows import row

NOUGHT = (0, 1)
RANKS = [1, 2, 3, 4]


def exact(case, told):
    """The value of a fraction that was told, which must have the form of one."""
    case.assertIs(type(told), tuple)
    case.assertEqual([type(number) for number in told], [int, int])
    value = Fraction(told[0], told[1])
    case.assertEqual(told, (value.numerator, value.denominator))
    return value


def of(told):
    return Fraction(told[0], told[1])


def sum_of(one, placing):
    return sum((of(number) * of(placing[unknown]) for unknown, number in one[0].items()), Fraction(0))


def missed_of(one, placing):
    lead = sum_of(one, placing) - of(one[2])
    if lead < 0:
        return Fraction(0) if one[1] == "most" else -lead
    return Fraction(0) if one[1] == "least" else lead


def goal_of(rows, goal, placing):
    if isinstance(goal, str):
        return of(placing[goal])
    return sum((one[4] * missed_of(one, placing) for one in rows if one[3] == goal), Fraction(0))


def check_fits(case, rows, unknowns, placing):
    """The placing has just the unknowns, in their order, and fits the rows."""
    case.assertIs(type(placing), dict)
    case.assertEqual(list(placing), list(unknowns))
    for told in placing.values():
        case.assertGreaterEqual(exact(case, told), 0)
    for one in rows:
        if one[3] == 0:
            case.assertEqual(missed_of(one, placing), 0)


def check_signs(case, rows, prices):
    """No price of a least is below 0, none of a most above 0."""
    for one, price in zip(rows, prices):
        value = exact(case, price)
        if one[1] == "least":
            case.assertGreaterEqual(value, 0)
        if one[1] == "most":
            case.assertLessEqual(value, 0)


def column_of(rows, prices, unknown):
    return sum((of(price) * of(one[0].get(unknown, NOUGHT)) for one, price in zip(rows, prices)), Fraction(0))


def numbers_of(rows, prices):
    return sum((of(price) * of(one[2]) for one, price in zip(rows, prices)), Fraction(0))


def check_weights(case, rows, unknowns, numbers, weights):
    """The weights show that the musts of these numbers clash."""
    case.assertIs(type(numbers), list)
    case.assertIs(type(weights), list)
    case.assertEqual(numbers, sorted(set(numbers)))
    case.assertEqual(len(numbers), len(weights))
    chosen = [rows[number] for number in numbers]
    case.assertEqual([one[3] for one in chosen], [0] * len(chosen))
    check_signs(case, chosen, weights)
    for unknown in unknowns:
        case.assertLessEqual(column_of(chosen, weights, unknown), 0)
    case.assertEqual(numbers_of(chosen, weights), 1)


def check_least(case, rows, unknowns, one, told):
    """What is told is the least of the sum, or that it falls without end, and it shows it."""
    case.assertIs(type(told), tuple)
    case.assertEqual(len(told), 3)
    check_fits(case, rows, unknowns, told[1])
    if told[0] == "falls":
        check_way(case, rows, unknowns, one, told)
        return
    case.assertEqual(told[0], "least")
    prices = told[2]
    case.assertIs(type(prices), list)
    case.assertEqual(len(prices), len(rows))
    check_signs(case, rows, prices)
    case.assertEqual([price for price, other in zip(prices, rows) if other[3] != 0 and price != NOUGHT], [])
    for unknown in unknowns:
        case.assertLessEqual(column_of(rows, prices, unknown), of(one[0].get(unknown, NOUGHT)))
    case.assertEqual(numbers_of(rows, prices) + of(one[1]), sum_of(one, told[1]) + of(one[1]))


def check_way(case, rows, unknowns, one, told):
    way = told[2]
    case.assertIs(type(way), dict)
    case.assertEqual(list(way), list(unknowns))
    for pace in way.values():
        case.assertGreaterEqual(exact(case, pace), 0)
    case.assertEqual(sum_of(one, way), -1)
    for count in (0, 1, 2, 7, 10 ** 9):
        values = {unknown: of(told[1][unknown]) + count * of(way[unknown]) for unknown in unknowns}
        moved = {unknown: (value.numerator, value.denominator) for unknown, value in values.items()}
        check_fits(case, rows, unknowns, moved)


def check_paper(case, rows, unknowns, settled, goal, paper):
    """The paper holds; told is its bound."""
    case.assertIs(type(paper), tuple)
    prices, shares = paper
    case.assertIs(type(prices), list)
    case.assertIs(type(shares), list)
    case.assertEqual(len(prices), len(rows))
    case.assertEqual(len(shares), len(settled))
    for share in shares:
        case.assertGreaterEqual(exact(case, share), 0)
    check_signs(case, rows, prices)

    def allowed(thing):
        told = [of(share) for share, pair in zip(shares, settled) if pair[0] == thing]
        return sum(told, Fraction(1 if thing == goal else 0))

    for one, price in zip(rows, prices):
        if one[3] != 0:
            case.assertLessEqual(abs(of(price)), one[4] * allowed(one[3]))
    for unknown in unknowns:
        case.assertLessEqual(column_of(rows, prices, unknown), allowed(unknown))
    return numbers_of(rows, prices) - sum((of(share) * of(pair[1]) for share, pair in zip(shares, settled)), Fraction(0))


def check_laid(case, rows, unknowns, told):
    """What laying out told: the papers show that no goal can be less, so no other placing could be told."""
    case.assertIs(type(told), tuple)
    placing, settled, papers = told
    check_fits(case, rows, unknowns, placing)
    case.assertIs(type(settled), list)
    case.assertEqual([type(pair) for pair in settled], [tuple] * len(settled))
    case.assertEqual([goal for goal, value in settled], RANKS + list(unknowns))
    case.assertIs(type(papers), list)
    case.assertEqual(len(papers), len(settled))
    for place, pair in enumerate(settled):
        value = exact(case, pair[1])
        case.assertEqual(goal_of(rows, pair[0], placing), value)
        case.assertEqual(check_paper(case, rows, unknowns, settled[:place], pair[0], papers[place]), value)


def told_by(value):
    """The fraction as the program has it."""
    value = Fraction(value)
    return (value.numerator, value.denominator)


def grown(growing, width):
    """The rows that growing rows are at a width."""
    return [(one[0], one[1], told_by(of(one[2]) + of(pace) * width), one[3], one[4]) for one, pace in growing]


def laid_anew(case, growing, unknowns, width):
    """The placing of the rows at a width, shown by its papers to be the only one, or None where they clash."""
    rows = grown(growing, width)
    try:
        told = laid(rows, unknowns)
    except Clash as clash:
        check_weights(case, rows, unknowns, clash.numbers, clash.weights)
        return None
    check_laid(case, rows, unknowns, told)
    return told[0]


def check_piece(case, growing, unknowns, begin, placing, piece, spots):
    """The piece tells what laying out anew tells at so many widths up to its end; told is the placing there."""
    case.assertIs(type(piece), tuple)
    to, paces = piece
    case.assertIs(type(paces), dict)
    case.assertEqual(list(paces), list(unknowns))
    case.assertGreater(exact(case, to), begin)
    for spot in range(1, spots + 1):
        step = (of(to) - begin) * Fraction(spot, spots)
        reckoned = {unknown: told_by(of(placing[unknown]) + exact(case, paces[unknown]) * step) for unknown in unknowns}
        case.assertEqual(laid_anew(case, growing, unknowns, begin + step), reckoned)
    return reckoned


def check_growth(case, growing, unknowns, start, stop, told, spots=4):
    """What growth told: the same as laying out anew at start, within the pieces and at their ends, and no less of it."""
    case.assertIs(type(told), tuple)
    placing, pieces = told
    begin = of(start)
    case.assertEqual(laid_anew(case, growing, unknowns, begin), placing)
    case.assertEqual(list(placing), list(unknowns))
    case.assertIs(type(pieces), list)
    case.assertLessEqual(len(pieces), 40)
    for place, piece in enumerate(pieces):
        placing = check_piece(case, growing, unknowns, begin, placing, piece, spots)
        case.assertNotEqual(piece[1], pieces[place - 1][1] if place else None)
        begin = of(piece[0])
    case.assertLessEqual(begin, of(stop))
    if begin < of(stop) and len(pieces) < 40:
        for part_of_it in (1, Fraction(1, 10 ** 9)):
            case.assertIsNone(laid_anew(case, growing, unknowns, begin + (of(stop) - begin) * part_of_it))


class Draw:
    """Rows drawn by lot, the same each time."""

    def __init__(self, seed):
        self.chance = random.Random(seed)

    def fraction(self, figures):
        """A fraction with a top and bottom up to this, or for 0 a whole number that comes often."""
        if figures == 0:
            return (self.chance.choice((-2, -1, 0, 0, 1, 1, 2, 5)), 1)
        value = Fraction(self.chance.randint(-figures, figures), self.chance.randint(1, figures))
        return (value.numerator, value.denominator)

    def rows(self, figures, most_rows, most_unknowns, ranks):
        """(rows, unknowns); some rows come twice."""
        chance = self.chance
        unknowns = [f"u{number}" for number in range(chance.randint(0, most_unknowns))]
        chance.shuffle(unknowns)
        rows = []
        for count in range(chance.randint(0, most_rows)):
            if rows and chance.random() < 0.1:
                rows.append(chance.choice(rows))
                continue
            parts = {unknown: self.fraction(figures) for unknown in unknowns if chance.random() < 0.6}
            rows.append(row(parts, chance.choice(("least", "most", "just")), self.fraction(figures),
                            chance.choice(ranks), chance.choice((1, 1, 2, 5, 10 ** 6))))
        return (rows, unknowns)

    def growing(self, figures, most_rows, most_unknowns, ranks):
        """(growing, unknowns)."""
        rows, unknowns = self.rows(figures, most_rows, most_unknowns, ranks)
        return ([(one, self.fraction(figures) if self.chance.random() < 0.7 else NOUGHT) for one in rows], unknowns)

    def sum(self, figures, unknowns):
        parts = {unknown: self.fraction(figures) for unknown in unknowns}
        return ({unknown: number for unknown, number in parts.items() if number != NOUGHT}, self.fraction(figures))
