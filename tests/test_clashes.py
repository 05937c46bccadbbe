import copy
import unittest

from checks import Draw, check_fits, check_weights
from springframe.clashes import fitted, least_clash
from springframe.errors import Clash
from springframe.rows import row

ONE = (1, 1)
HALF = (1, 2)
NOUGHT = (0, 1)
MINUS = (-1, 1)


class ClashCase(unittest.TestCase):
    def clash(self, rows, unknowns):
        """The numbers that clash, all that 3.6 says of them looked at."""
        numbers = list(range(len(rows)))
        with self.assertRaises(Clash) as caught:
            fitted(rows, unknowns, numbers)
        told = caught.exception
        check_weights(self, rows, unknowns, told.numbers, told.weights)
        self.assertNotIn(NOUGHT, told.weights)
        for number in told.numbers:
            others = [other for other in told.numbers if other != number]
            placing = fitted(rows, unknowns, others).placing()
            check_fits(self, [rows[other] for other in others], unknowns, placing)
        return told.numbers

    def placing(self, rows, unknowns):
        placing = fitted(rows, unknowns, list(range(len(rows)))).placing()
        check_fits(self, rows, unknowns, placing)
        return placing


class TestClash(ClashCase):
    def test_two_bounds(self):
        rows = [row({"x": ONE}, "least", (5, 1)), row({"x": ONE}, "most", (3, 1))]
        self.assertEqual(self.clash(rows, ["x"]), [0, 1])

    def test_the_weights_of_two_bounds(self):
        rows = [row({"x": (2, 1)}, "least", (5, 1)), row({"x": ONE}, "most", HALF)]
        with self.assertRaises(Clash) as caught:
            fitted(rows, ["x"], [0, 1])
        self.assertEqual(caught.exception.weights, [(1, 4), (-1, 2)])

    def test_bounds_that_meet_do_not_clash(self):
        rows = [row({"x": ONE}, "least", (5, 1)), row({"x": ONE}, "most", (5, 1)), row({"x": ONE}, "just", (5, 1))]
        self.assertEqual(self.placing(rows, ["x"]), {"x": (5, 1)})

    def test_one_row_by_itself(self):
        for one in (row({}, "least", HALF), row({}, "most", (-1, 3)), row({}, "just", (7, 1)), row({}, "just", (-7, 1)),
                    row({"x": ONE}, "most", (-1, 9)), row({"x": ONE}, "just", (-1, 9)), row({"x": MINUS}, "least", ONE),
                    row({"x": MINUS}, "just", ONE)):
            self.assertEqual(self.clash([row({"x": ONE}, "least", ONE), one], ["x"]), [1])

    def test_rows_without_parts_that_are_kept(self):
        rows = [row({}, "least", NOUGHT), row({}, "least", MINUS), row({}, "most", ONE), row({}, "just", NOUGHT)]
        self.assertEqual(self.placing(rows, []), {})
        self.assertEqual(self.placing(rows, ["x"]), {"x": NOUGHT})

    def test_only_musts_can_clash(self):
        for rank in (1, 2, 3, 4):
            rows = [row({"x": ONE}, "least", (5, 1), rank), row({"x": ONE}, "most", (3, 1)), row({}, "just", ONE, rank)]
            self.placing(rows, ["x"])

    def test_numbers_are_places_among_all_rows(self):
        rows = [row({"y": ONE}, "just", ONE, 2), row({"x": ONE}, "least", (5, 1)), row({"y": ONE}, "least", ONE),
                row({"x": ONE}, "just", (9, 1), 1), row({"x": ONE}, "most", (3, 1))]
        self.assertEqual(self.clash(rows, ["x", "y"]), [1, 4])

    def test_a_ring_of_many(self):
        names = ["a", "b", "c", "d", "e", "f", "g", "h"]
        rows = [row({one: MINUS, other: ONE}, "least", (1, 3)) for one, other in zip(names, names[1:] + names[:1])]
        self.assertEqual(self.clash(rows, names), list(range(8)))
        self.placing(rows[1:], names)

    def test_rows_that_come_twice_clash_once(self):
        rows = [row({"x": ONE}, "least", (5, 1)), row({"x": ONE}, "least", (5, 1)), row({"x": ONE}, "most", (3, 1)),
                row({"x": ONE}, "most", (3, 1))]
        self.assertEqual(len(self.clash(rows, ["x"])), 2)

    def test_one_clash_of_several(self):
        rows = [row({"x": ONE}, "least", (5, 1)), row({"x": ONE}, "most", (3, 1)), row({"y": ONE}, "least", (5, 1)),
                row({"y": ONE}, "most", (3, 1)), row({"x": ONE, "y": ONE}, "most", (4, 1))]
        self.assertEqual(len(self.clash(rows, ["x", "y"])), 2)

    def test_what_is_not_below_nought_counts(self):
        rows = [row({"x": ONE, "y": ONE}, "most", ONE), row({"x": ONE}, "least", (2, 1))]
        self.assertEqual(self.clash(rows, ["x", "y"]), [0, 1])

    def test_no_rows_and_no_unknowns(self):
        self.assertEqual(self.placing([], []), {})
        self.assertEqual(self.placing([], ["x", "y"]), {"x": NOUGHT, "y": NOUGHT})

    def test_rows_drawn_by_lot(self):
        draw = Draw(8)
        clashes = 0
        for count in range(400):
            rows, unknowns = draw.rows((0, 9, 10 ** 12 - 1)[count % 3], 16, 8, [0, 0, 3])
            musts = [number for number, one in enumerate(rows) if one[3] == 0]
            if least_clash(rows, unknowns, musts):
                clashes += 1
                self.clash(rows, unknowns)
            else:
                self.placing(rows, unknowns)
        self.assertGreater(clashes, 100)
        self.assertLess(clashes, 300)

    def test_nothing_handed_in_is_changed(self):
        rows = [row({"x": ONE}, "least", (5, 1)), row({"x": ONE}, "most", (3, 1))]
        handed = (rows, ["x"], [0, 1])
        before = copy.deepcopy(handed)
        with self.assertRaises(Clash) as caught:
            fitted(*handed)
        caught.exception.numbers.append(3)
        self.assertEqual(handed, before)
        with self.assertRaises(Clash) as again:
            fitted(*handed)
        self.assertEqual(again.exception.numbers, [0, 1])


if __name__ == "__main__":
    unittest.main()
