import copy
import unittest
from fractions import Fraction

from checks import Draw, check_paper, goal_of, of
from springframe.errors import Clash, NoPaper
from springframe.least import least
from springframe.papers import bound, shows_clash
from springframe.rows import fits, row

ONE = (1, 1)
HALF = (1, 2)
NOUGHT = (0, 1)
MINUS = (-1, 1)


class TestBound(unittest.TestCase):
    rows = [row({"x": ONE}, "least", (5, 1)), row({"x": ONE}, "just", (3, 1), 2, 2)]

    def test_the_example_of_the_document(self):
        self.assertEqual(bound(self.rows, ["x"], [], 2, ([(2, 1), (-2, 1)], [])), (4, 1))

    def test_a_weaker_paper_has_a_lower_bound(self):
        self.assertEqual(bound(self.rows, ["x"], [], 2, ([ONE, MINUS], [])), (2, 1))
        self.assertEqual(bound(self.rows, ["x"], [], 2, ([NOUGHT, NOUGHT], [])), NOUGHT)
        self.assertEqual(bound(self.rows, ["x"], [], 2, ([NOUGHT, (-2, 1)], [])), (-6, 1))

    def test_an_unknown_as_goal(self):
        self.assertEqual(bound(self.rows, ["x"], [], "x", ([ONE, NOUGHT], [])), (5, 1))
        self.assertEqual(bound(self.rows, ["x"], [(2, (4, 1))], "x", ([HALF, NOUGHT], [NOUGHT])), (5, 2))

    def test_shares_count_against_the_bound(self):
        settled = [(2, (4, 1)), ("x", (5, 1))]
        self.assertEqual(bound(self.rows, ["x"], settled, 3, ([NOUGHT, NOUGHT], [HALF, (3, 1)])), (-17, 1))
        self.assertEqual(bound(self.rows, ["x"], settled, "x", ([(2, 1), NOUGHT], [NOUGHT, ONE])), (5, 1))

    def test_no_rows_no_unknowns_nothing_settled(self):
        self.assertEqual(bound([], [], [], 1, ([], [])), NOUGHT)
        self.assertEqual(bound([], [], [(3, HALF)], 1, ([], [ONE])), (-1, 2))

    def test_great_values_of_settled_goals(self):
        value = (10 ** 20 - 1, 10 ** 20 - 3)
        self.assertEqual(bound([], [], [(3, value)], 1, ([], [(3, 1)])), (-3 * value[0], value[1]))

    def test_more_than_sixteen_rows_are_not_refused(self):
        self.assertEqual(bound(self.rows * 9, ["x"], [], 2, ([(2, 1), (-2, 1)] + [NOUGHT] * 16, [])), (4, 1))


class TestNoPaper(unittest.TestCase):
    rows = [row({"x": ONE}, "least", (5, 1)), row({"x": ONE, "y": ONE}, "most", (9, 1)), row({"y": ONE}, "just", ONE),
            row({"x": ONE}, "least", (7, 1), 2, 3), row({"x": ONE}, "most", ONE, 2, 3), row({"y": ONE}, "just", ONE, 2, 3)]
    unknowns = ["x", "y"]

    def paper(self, prices, shares=(), settled=(), goal=2):
        told = [NOUGHT] * len(self.rows)
        for number, price in prices.items():
            told[number] = price
        return bound(self.rows, self.unknowns, list(settled), goal, (told, list(shares)))

    def refused(self, prices, shares=(), settled=(), goal=2):
        with self.assertRaises(NoPaper):
            self.paper(prices, shares, settled, goal)

    def test_another_count_of_prices(self):
        for count in (0, 5, 7):
            with self.assertRaises(NoPaper):
                bound(self.rows, self.unknowns, [], 2, ([NOUGHT] * count, []))

    def test_another_count_of_shares(self):
        settled = [(1, NOUGHT), (2, ONE)]
        self.paper({}, [NOUGHT, NOUGHT], settled)
        self.refused({}, [NOUGHT], settled)
        self.refused({}, [NOUGHT] * 3, settled)
        self.refused({}, [], settled)
        self.refused({}, [NOUGHT])

    def test_a_share_below_nought(self):
        self.paper({}, [NOUGHT], [(3, ONE)])
        self.refused({}, [(-1, 10 ** 9)], [(3, ONE)])
        self.refused({}, [ONE, MINUS], [(3, ONE), (3, ONE)])

    def test_the_price_of_a_least_below_nought(self):
        self.refused({0: (-1, 9)})
        self.refused({3: (-1, 9)})

    def test_the_price_of_a_most_above_nought(self):
        # What the unknowns come to is made up for by others.
        self.paper({0: ONE, 1: MINUS})
        self.refused({1: (1, 9), 2: (-1, 1), 4: MINUS})
        self.refused({4: (1, 9), 1: MINUS})

    def test_the_price_of_a_just_may_be_either(self):
        self.assertEqual(self.paper({2: (-5, 1)}), (-5, 1))
        self.assertEqual(self.paper({2: (5, 1), 1: (-5, 1)}), (-40, 1))

    def test_the_room_of_a_row_of_the_goal(self):
        self.assertEqual(self.paper({3: (3, 1), 1: (-3, 1)}), (-6, 1))
        self.refused({3: (31, 10), 1: (-4, 1)})
        self.assertEqual(self.paper({4: (-3, 1)}), (-3, 1))
        self.refused({4: (-31, 10)})
        self.assertEqual(self.paper({5: (-3, 1)}), (-3, 1))
        self.refused({5: (-31, 10)})
        self.refused({5: (31, 10), 1: (-4, 1)})

    def test_without_goal_and_share_there_is_no_room(self):
        self.refused({4: (-1, 100)}, goal=1)
        self.refused({4: (-1, 100)}, goal="x")
        self.refused({4: (-1, 100)}, [ONE], [(3, ONE)], goal=1)

    def test_shares_make_room(self):
        self.assertEqual(self.paper({4: (-6, 1)}, [(2, 1)], [(2, HALF)], goal=3), (-7, 1))
        self.refused({4: (-61, 10)}, [(2, 1)], [(2, HALF)], goal=3)

    def test_the_goal_and_shares_of_it_count_together(self):
        settled = [(2, HALF), (1, ONE), (2, HALF)]
        self.assertEqual(self.paper({4: (-12, 1)}, [ONE, NOUGHT, (2, 1)], settled), (-27, 2))
        self.refused({4: (-121, 10)}, [ONE, NOUGHT, (2, 1)], settled)

    def test_the_room_of_a_must_has_no_end(self):
        self.assertEqual(self.paper({0: (10 ** 9, 1), 1: (-(10 ** 9), 1)}, goal=1), (-4 * 10 ** 9, 1))

    def test_what_the_unknowns_come_to(self):
        self.refused({0: (1, 100)})
        self.refused({2: (1, 100)})
        self.assertEqual(self.paper({0: ONE}, goal="x"), (5, 1))
        self.refused({0: (11, 10)}, goal="x")
        self.refused({2: (1, 100)}, goal="x")
        self.refused({0: (1, 100)}, goal="y")

    def test_shares_of_unknowns(self):
        settled = [("x", (5, 1)), ("y", ONE), ("x", (5, 1))]
        self.assertEqual(self.paper({0: (3, 1)}, [ONE, NOUGHT, (2, 1)], settled), NOUGHT)
        self.refused({0: (31, 10)}, [ONE, NOUGHT, (2, 1)], settled)
        self.refused({0: (31, 10)}, [ONE, (9, 1), (2, 1)], settled)
        self.assertEqual(self.paper({0: (4, 1)}, [ONE, NOUGHT, (2, 1)], settled, "x"), (5, 1))

    def test_an_unknown_that_comes_to_less_is_no_matter(self):
        self.assertEqual(self.paper({1: (-2, 1)}), (-18, 1))


class TestBoundsBound(unittest.TestCase):
    def test_papers_drawn_by_lot_bound_every_placing(self):
        draw = Draw(31)
        chance = draw.chance
        good = 0
        for count in range(3000):
            rows, unknowns = draw.rows(0, 4, 2, [0, 1, 2])
            goals = [1, 2] + unknowns
            goal = chance.choice(goals)
            settled = [(chance.choice(goals), draw.fraction(0)) for place in range(chance.randrange(3))]
            signs = {"least": (0, 1, 2), "most": (0, -1, -2), "just": (-1, 0, 1)}
            prices = [(chance.choice(signs[one[1]]), 1) for one in rows]
            shares = [(chance.choice((0, 1, 2)), 1) for pair in settled]
            try:
                told = bound(rows, unknowns, settled, goal, (prices, shares))
            except NoPaper:
                with self.assertRaises(AssertionError):
                    check_paper(self, rows, unknowns, settled, goal, (prices, shares))
                continue
            good += 1
            self.assertEqual(of(told), check_paper(self, rows, unknowns, settled, goal, (prices, shares)))
            for values in ((0, 0), (1, 0), (0, 1), (2, 1), (5, 5), (Fraction(1, 2), 3)):
                placing = {name: (Fraction(value).numerator, Fraction(value).denominator)
                           for name, value in zip(unknowns, values)}
                kept = all(goal_of(rows, pair[0], placing) <= of(pair[1]) for pair in settled)
                if kept and fits(rows, placing):
                    self.assertGreaterEqual(goal_of(rows, goal, placing), of(told))
        self.assertGreater(good, 300)


class TestShowsClash(unittest.TestCase):
    rows = [row({"x": ONE}, "least", (5, 1)), row({"x": ONE}, "just", ONE, 2), row({"x": ONE}, "most", (3, 1)),
            row({"y": ONE}, "just", ONE)]
    unknowns = ["x", "y"]

    def shown(self, numbers, weights):
        return shows_clash(self.rows, self.unknowns, numbers, weights)

    def test_good_weights(self):
        self.assertIs(self.shown([0, 2], [HALF, (-1, 2)]), True)

    def test_numbers_that_could_be_left_out_are_no_matter(self):
        self.assertIs(self.shown([0, 2, 3], [HALF, (-1, 2), NOUGHT]), True)
        self.assertIs(self.shown([0, 2, 3], [ONE, MINUS, MINUS]), True)

    def test_another_count(self):
        self.assertIs(self.shown([0, 2], [HALF]), False)
        self.assertIs(self.shown([0, 2], [HALF, (-1, 2), NOUGHT]), False)
        self.assertIs(self.shown([], []), False)

    def test_numbers_that_do_not_rise(self):
        self.assertIs(self.shown([2, 0], [(-1, 2), HALF]), False)
        self.assertIs(self.shown([0, 0, 2], [(1, 4), (1, 4), (-1, 2)]), False)

    def test_numbers_of_no_must(self):
        self.assertIs(self.shown([0, 1, 2], [HALF, NOUGHT, (-1, 2)]), False)
        self.assertIs(self.shown([0, 2, 4], [HALF, (-1, 2), NOUGHT]), False)
        self.assertIs(self.shown([0, 2, 99], [HALF, (-1, 2), NOUGHT]), False)
        self.assertIs(self.shown([-1, 0, 2], [NOUGHT, HALF, (-1, 2)]), False)
        self.assertIs(self.shown([-4, -2], [HALF, (-1, 2)]), False)

    def test_wrong_signs(self):
        rows = [row({"x": ONE}, "least", (-1, 1)), row({"x": ONE}, "most", (1, 1)), row({"x": ONE}, "just", (-1, 1))]
        self.assertIs(shows_clash(rows, ["x"], [0], [MINUS]), False)
        self.assertIs(shows_clash(rows[1:2], [], [0], [ONE]), False)
        self.assertIs(shows_clash(rows, ["x"], [2], [MINUS]), True)

    def test_unknowns_that_come_to_more_than_nought(self):
        self.assertIs(self.shown([0], [(1, 5)]), False)
        self.assertIs(self.shown([0, 2], [(11, 25), (-10, 25)]), False)
        self.assertIs(self.shown([3], [ONE]), False)

    def test_unknowns_that_come_to_less_than_nought(self):
        rows = [row({"x": MINUS}, "least", ONE)]
        self.assertIs(shows_clash(rows, ["x"], [0], [ONE]), True)

    def test_numbers_that_do_not_come_to_one(self):
        self.assertIs(self.shown([0, 2], [ONE, MINUS]), False)
        self.assertIs(self.shown([0, 2], [(1, 3), (-1, 3)]), False)
        self.assertIs(self.shown([0, 2], [NOUGHT, NOUGHT]), False)

    def test_told_clashes_are_shown(self):
        draw = Draw(5)
        clashes = 0
        for count in range(150):
            rows, unknowns = draw.rows(9, 12, 5, [0, 0, 3])
            try:
                least(rows, unknowns, ({}, NOUGHT))
            except Clash as clash:
                clashes += 1
                self.assertIs(shows_clash(rows, unknowns, clash.numbers, clash.weights), True)
        self.assertGreater(clashes, 30)


class TestNothingIsChanged(unittest.TestCase):
    def test_handed_in(self):
        rows = [row({"x": ONE}, "least", (5, 1)), row({"x": ONE}, "most", (3, 1))]
        handed = (rows, ["x"], [(2, ONE)], "x", ([ONE, NOUGHT], [NOUGHT]))
        before = copy.deepcopy(handed)
        bound(*handed)
        self.assertEqual(handed, before)
        handed = (rows, ["x"], [0, 1], [HALF, (-1, 2)])
        before = copy.deepcopy(handed)
        shows_clash(*handed)
        self.assertEqual(handed, before)

    def test_arguments_go_by_their_names(self):
        self.assertEqual(bound(paper=([], []), goal=1, settled=[], unknowns=[], rows=[]), NOUGHT)
        self.assertIs(shows_clash(weights=[], numbers=[], unknowns=[], rows=[]), False)


if __name__ == "__main__":
    unittest.main()
