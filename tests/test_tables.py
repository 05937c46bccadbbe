import copy
import unittest

from checks import Draw, check_least, sum_of
from springframe.parts import part
from springframe.rows import row
from springframe.tables import Sheet, Table, common_bottom, settled_musts, whole_numbers

ONE = (1, 1)
HALF = (1, 2)
NOUGHT = (0, 1)


class TestWholeNumbers(unittest.TestCase):
    def test_common_bottom(self):
        self.assertEqual(common_bottom([]), 1)
        self.assertEqual(common_bottom([NOUGHT, (5, 1)]), 1)
        self.assertEqual(common_bottom([(1, 4), (-5, 6), (1, 3)]), 12)

    def test_whole_numbers(self):
        self.assertEqual(whole_numbers([(1, 4), (-5, 6), (2, 1), NOUGHT], 12), [3, -10, 24, 0])


class TestTable(unittest.TestCase):
    def table(self):
        # x + 2 y + p = 4 and 3 x + y + q = 6, solved for p and q.
        return Table([[1, 2, 1, 0, 4], [3, 1, 0, 1, 6]], [2, 3])

    def told(self, table):
        return [table.told(column) for column in range(4)]

    def test_the_corner_at_the_start(self):
        self.assertEqual(self.told(self.table()), [NOUGHT, NOUGHT, (4, 1), (6, 1)])

    def test_down_to_the_least(self):
        table = self.table()
        self.assertIsNone(table.go_down([-1, -1, 0, 0]))
        self.assertEqual(self.told(table), [(8, 5), (6, 5), NOUGHT, NOUGHT])
        self.assertEqual(part(-table.costs_left([-1, -1, 0, 0])[-1], table.bottom), (-14, 5))

    def test_lines_hold_at_each_corner(self):
        table = self.table()
        table.turn(0, 1)
        self.assertEqual(self.told(table), [NOUGHT, (2, 1), NOUGHT, (4, 1)])
        table.turn(1, 0)
        self.assertEqual(self.told(table), [(8, 5), (6, 5), NOUGHT, NOUGHT])

    def test_a_line_solved_for_a_column_below_nought(self):
        # x - 2 y + p = 4, solved for p: for y it is - x / 2 + y - p / 2 = - 2.
        table = Table([[1, -2, 1, 0, 4], [3, 1, 0, 1, 6]], [2, 3])
        table.turn(0, 1)
        self.assertEqual((table.lines, table.solved, table.bottom), ([[-1, 2, -1, 0, -4], [7, 0, 1, 2, 16]], [1, 3], 2))
        self.assertEqual(self.told(table), [NOUGHT, (-2, 1), NOUGHT, (8, 1)])
        table.turn(0, 0)
        self.assertEqual(self.told(table), [(4, 1), NOUGHT, NOUGHT, (-6, 1)])

    def test_falling_without_end(self):
        table = Table([[1, -1, 1, 3]], [2])
        self.assertEqual(table.go_down([0, -1, 0]), 1)
        self.assertEqual([table.pace(column, 1) for column in range(3)], [NOUGHT, ONE, ONE])

    def test_shut_columns_stay_nought(self):
        table = self.table()
        self.assertIsNone(table.go_down([1, 0, 0, 0]))
        table.shut_rising([1, 0, 0, 0], 0)
        self.assertEqual(table.shut, {0: 0})
        self.assertIsNone(table.go_down([-5, -1, 0, 0]))
        self.assertEqual(self.told(table), [NOUGHT, (2, 1), NOUGHT, (4, 1)])

    def test_no_lines_and_no_columns(self):
        self.assertIsNone(Table([], []).go_down([]))
        self.assertEqual(Table([], []).go_down([1, -1]), 1)

    def test_the_first_column_and_the_first_line_go(self):
        # Only so is it sure that no corner comes again.
        table = Table([[1, 0, 1, 1, 2], [1, 1, 0, 1, 2]], [2, 1])
        self.assertEqual(table.falling([-1, 0, 0, -9]), 0)
        self.assertEqual(table.falling([1, 0, 0, -9]), 3)
        self.assertEqual(table.first_stop(0), 1)
        self.assertEqual(Table([[1, 1, 0, 1, 2], [1, 0, 1, 1, 2]], [1, 2]).first_stop(0), 0)

    def test_many_lines_that_stop_at_once(self):
        costs = [-3, 80, -2, 24, 0, 0, 0]
        table = Table([[1, -32, -4, 36, 1, 0, 0, 0], [1, -24, -1, 6, 0, 1, 0, 0], [0, 0, 1, 0, 0, 0, 1, 1]], [4, 5, 6])
        self.assertIsNone(table.go_down(costs))
        self.assertEqual(table.costs_left(costs)[-1], 5 * table.bottom)


class TestSheet(unittest.TestCase):
    def test_musts_that_can_be_kept_miss_nothing(self):
        rows = [row({"x": ONE, "y": ONE}, "least", (5, 2)), row({"x": ONE}, "most", (2, 1)),
                row({"y": (1, 3), "x": (-1, 7)}, "just", (1, 6))]
        sheet = settled_musts(rows, ["x", "y"])
        self.assertEqual(sheet.value(0), NOUGHT)

    def test_musts_that_clash_miss_something(self):
        sheet = settled_musts([row({"x": ONE}, "least", (5, 1)), row({"x": ONE}, "most", (3, 1))], ["x"])
        self.assertEqual(sheet.value(0), (2, 1))

    def test_the_columns(self):
        sheet = Sheet([row({"x": HALF}, "least", (-1, 3)), row({"y": ONE}, "most", (4, 1))], ["x", "y", "z"])
        self.assertEqual(sheet.columns(), 7)
        self.assertEqual(sheet.scales, [6, 1])
        self.assertEqual([sheet.table.told(column) for column in range(7)],
                         [NOUGHT, NOUGHT, NOUGHT, NOUGHT, (2, 1), (4, 1), NOUGHT])

    def test_what_a_rank_costs(self):
        rows = [row({"x": HALF}, "least", ONE, 2, 6), row({"x": HALF}, "most", ONE, 2, 3),
                row({"x": ONE}, "just", ONE, 2, 5), row({"x": ONE}, "just", ONE, 3, 5)]
        costs = Sheet(rows, ["x"]).rank_costs(2)
        self.assertEqual(costs, [NOUGHT, (3, 1), NOUGHT, NOUGHT, (3, 2), (5, 1), (5, 1), NOUGHT, NOUGHT])

    def test_goals_are_settled_one_behind_the_other(self):
        rows = [row({"x": ONE, "y": ONE}, "just", (10, 1))]
        sheet = settled_musts(rows, ["x", "y"])
        self.assertIsNone(sheet.settle(sheet.sum_costs({"x": ONE})))
        self.assertIsNone(sheet.settle(sheet.sum_costs({"y": ONE})))
        self.assertEqual(sheet.placing(), {"x": NOUGHT, "y": (10, 1)})
        self.assertEqual([sheet.value(1), sheet.value(2)], [NOUGHT, (10, 1)])
        sheet = settled_musts(rows, ["x", "y"])
        self.assertIsNone(sheet.settle(sheet.sum_costs({"y": ONE})))
        self.assertIsNone(sheet.settle(sheet.sum_costs({"x": ONE})))
        self.assertEqual(sheet.placing(), {"x": (10, 1), "y": NOUGHT})

    def test_nothing_handed_in_is_changed(self):
        rows = [row({"x": HALF}, "least", (-1, 3)), row({"y": ONE}, "most", (4, 1))]
        unknowns = ["x", "y"]
        before = copy.deepcopy((rows, unknowns))
        sheet = settled_musts(rows, unknowns)
        sheet.settle(sheet.sum_costs({"x": ONE}))
        sheet.paper(1)
        self.assertEqual((rows, unknowns), before)


class TestLeastSums(unittest.TestCase):
    def least(self, rows, unknowns, one):
        sheet = settled_musts(rows, unknowns)
        self.assertEqual(sheet.value(0), NOUGHT)
        way = sheet.settle(sheet.sum_costs(one[0]))
        if way is not None:
            told = ("falls", sheet.placing(), way)
        else:
            told = ("least", sheet.placing(), sheet.paper(1)[0])
        check_least(self, rows, unknowns, one, told)
        return told

    def test_at_a_corner(self):
        rows = [row({"x": ONE, "y": (2, 1)}, "most", (4, 1)), row({"x": (3, 1), "y": ONE}, "most", (6, 1))]
        told = self.least(rows, ["x", "y"], ({"x": (-1, 1), "y": (-1, 1)}, HALF))
        self.assertEqual(told[:2], ("least", {"x": (8, 5), "y": (6, 5)}))
        self.assertEqual(told[2], [(-2, 5), (-1, 5)])

    def test_at_many_placings(self):
        rows = [row({"x": ONE, "y": ONE}, "least", (4, 1))]
        one = ({"x": (2, 1), "y": (2, 1)}, ONE)
        told = self.least(rows, ["x", "y"], one)
        self.assertEqual(sum_of(one, told[1]), 8)
        self.assertEqual(told[2], [(2, 1)])

    def test_falling_without_end(self):
        rows = [row({"x": ONE, "y": (-1, 1)}, "most", (4, 1)), row({"x": ONE, "y": ONE}, "least", (3, 1))]
        told = self.least(rows, ["x", "y", "z"], ({"x": (-3, 2), "z": HALF}, ONE))
        self.assertEqual(told[0], "falls")

    def test_an_unknown_of_no_row(self):
        self.assertEqual(self.least([], ["x"], ({"x": (-2, 1)}, ONE)), ("falls", {"x": NOUGHT}, {"x": HALF}))
        self.assertEqual(self.least([], ["x"], ({"x": (2, 1)}, ONE)), ("least", {"x": NOUGHT}, []))

    def test_a_sum_without_parts(self):
        rows = [row({"x": ONE}, "just", (3, 1))]
        self.assertEqual(self.least(rows, ["x"], ({}, (7, 1))), ("least", {"x": (3, 1)}, [NOUGHT]))
        self.assertEqual(self.least([], [], ({}, (7, 1))), ("least", {}, []))

    def test_rows_that_come_twice(self):
        rows = [row({"x": ONE, "y": ONE}, "just", (4, 1)), row({"x": ONE, "y": ONE}, "just", (4, 1)),
                row({"x": (2, 1), "y": (2, 1)}, "just", (8, 1)), row({"x": ONE}, "least", ONE),
                row({"x": ONE}, "least", ONE)]
        told = self.least(rows, ["x", "y"], ({"x": ONE, "y": HALF}, NOUGHT))
        self.assertEqual(told[1], {"x": ONE, "y": (3, 1)})

    def test_numbers_below_nought(self):
        rows = [row({"x": (-1, 1), "y": (-1, 1)}, "most", (-4, 1)), row({"x": (-1, 1)}, "least", (-3, 1)),
                row({"y": ONE, "x": (-1, 1)}, "just", (-1, 1))]
        told = self.least(rows, ["x", "y"], ({"x": ONE}, NOUGHT))
        self.assertEqual(told[1], {"x": (5, 2), "y": (3, 2)})

    def test_rows_drawn_by_lot(self):
        draw = Draw(3)
        seen = {"least": 0, "falls": 0}
        for count in range(400):
            figures = (0, 9, 10 ** 12 - 1)[count % 3]
            rows, unknowns = draw.rows(figures, 9, 8, [0])
            if settled_musts(rows, unknowns).value(0) == NOUGHT:
                told = self.least(rows, unknowns, draw.sum(figures, unknowns))
                seen[told[0]] += 1
        self.assertGreater(min(seen.values()), 40)


if __name__ == "__main__":
    unittest.main()
