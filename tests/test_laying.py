import copy
import unittest

from checks import Draw, check_fits, check_laid, check_weights, of
from springframe.errors import Clash, TooMany
from springframe.laying import laid, spared
from springframe.papers import bound, shows_clash
from springframe.rows import row

ONE = (1, 1)
HALF = (1, 2)
NOUGHT = (0, 1)
MINUS = (-1, 1)
EIGHT = ["a", "b", "c", "d", "e", "f", "g", "h"]


class LayingCase(unittest.TestCase):
    def told(self, rows, unknowns):
        """What is laid out, with every paper added up here and by the program's own bound."""
        got = laid(rows, unknowns)
        check_laid(self, rows, unknowns, got)
        settled = got[1]
        for place, pair in enumerate(settled):
            self.assertEqual(bound(rows, unknowns, settled[:place], pair[0], got[2][place]), pair[1])
        return got


class TestLaid(LayingCase):
    def test_the_example_of_the_papers(self):
        rows = [row({"x": ONE}, "least", (5, 1)), row({"x": ONE}, "just", (3, 1), 2, 2)]
        got = self.told(rows, ["x"])
        self.assertEqual(got[0], {"x": (5, 1)})
        self.assertEqual(got[1], [(1, NOUGHT), (2, (4, 1)), (3, NOUGHT), (4, NOUGHT), ("x", (5, 1))])

    def test_higher_ranks_go_first_whatever_the_weights(self):
        for high in (1, 2, 3):
            for low in range(high + 1, 5):
                rows = [row({"x": ONE}, "just", (9, 1), low, 10 ** 6), row({"x": ONE}, "just", (3, 1), high, 1)]
                self.assertEqual(self.told(rows, ["x"])[0], {"x": (3, 1)})

    def test_weights_count_within_a_rank(self):
        rows = [row({"x": ONE}, "just", (9, 1), 3, 2), row({"x": ONE}, "just", (3, 1), 3, 3)]
        self.assertEqual(self.told(rows, ["x"])[0], {"x": (3, 1)})
        rows = [row({"x": ONE}, "just", (9, 1), 3, 4), row({"x": ONE}, "just", (3, 1), 3, 3)]
        self.assertEqual(self.told(rows, ["x"])[0], {"x": (9, 1)})

    def test_what_ranks_leave_open_the_unknowns_settle(self):
        rows = [row({"x": ONE}, "just", (9, 1), 3, 2), row({"x": ONE}, "just", (3, 1), 3, 2)]
        self.assertEqual(self.told(rows, ["x"])[0], {"x": (3, 1)})
        rows = [row({"x": ONE, "y": ONE}, "just", (9, 1), 4)]
        self.assertEqual(self.told(rows, ["x", "y"])[0], {"x": NOUGHT, "y": (9, 1)})
        self.assertEqual(self.told(rows, ["y", "x"])[0], {"y": NOUGHT, "x": (9, 1)})

    def test_each_kind_of_soft_row(self):
        must = row({"x": ONE}, "just", (5, 1))
        for kind, number, value in (("least", (7, 1), (4, 1)), ("least", (3, 1), NOUGHT), ("most", (3, 1), (4, 1)),
                                    ("most", (7, 1), NOUGHT), ("just", (9, 2), ONE), ("just", (11, 2), ONE)):
            got = self.told([row({"x": ONE}, kind, number, 3, 2), must], ["x"])
            self.assertEqual(got[1][2], (3, value))

    def test_soft_rows_that_no_placing_keeps(self):
        rows = [row({"x": ONE}, "just", (-4, 1), 1, 3), row({}, "least", HALF, 2, 5), row({}, "most", (-1, 3), 4, 6)]
        got = self.told(rows, ["x"])
        self.assertEqual(got[1], [(1, (12, 1)), (2, (5, 2)), (3, NOUGHT), (4, (2, 1)), ("x", NOUGHT)])

    def test_no_rows_and_no_unknowns(self):
        nothing = [(1, NOUGHT), (2, NOUGHT), (3, NOUGHT), (4, NOUGHT)]
        self.assertEqual(self.told([], [])[:2], ({}, nothing))
        self.assertEqual(self.told([], ["x"])[:2], ({"x": NOUGHT}, nothing + [("x", NOUGHT)]))
        self.assertEqual(self.told([row({}, "least", ONE, 3, 7)], [])[1][2], (3, (7, 1)))

    def test_great_numbers_are_exact(self):
        third = (10 ** 12 - 1, 10 ** 12 - 11)
        rows = [row({"x": third, "y": (1, 999999999989)}, "just", (7, 999999999961)),
                row({"x": (1, 999999999937)}, "just", (999999999999, 7), 2, 10 ** 6)]
        self.told(rows, ["y", "x"])

    def test_rows_drawn_by_lot(self):
        draw = Draw(41)
        seen = 0
        for count in range(300):
            rows, unknowns = draw.rows((0, 9, 0, 10 ** 12 - 1)[count % 4], 16, 8, ([0, 1, 2, 3, 4], [1, 2, 4])[count % 2])
            try:
                self.told(rows, unknowns)
            except Clash as clash:
                check_weights(self, rows, unknowns, clash.numbers, clash.weights)
            else:
                seen += 1
        self.assertGreater(seen, 150)

    def test_another_order_of_the_rows_and_musts_that_come_twice(self):
        draw = Draw(43)
        for count in range(100):
            rows, unknowns = draw.rows(0, 12, 6, [0, 1, 2, 3, 4])
            try:
                got = self.told(rows, unknowns)
            except Clash:
                continue
            others = rows + [one for one in rows if one[3] == 0][:16 - len(rows)]
            draw.chance.shuffle(others)
            self.assertEqual(self.told(others, unknowns)[:2], got[:2])

    def test_soft_rows_that_come_twice_count_twice(self):
        rows = [row({"x": ONE}, "just", (9, 1), 3), row({"x": ONE}, "just", (3, 1), 3)]
        self.assertEqual(self.told(rows + rows[:1], ["x"])[0], {"x": (9, 1)})


class TestRefusals(LayingCase):
    def test_sixteen_rows_and_eight_unknowns(self):
        rows = [row({name: ONE}, "least", (3, 1)) for name in EIGHT] + [row({name: ONE}, "just", ONE, 1) for name in EIGHT]
        self.assertEqual(set(self.told(rows, EIGHT)[0].values()), {(3, 1)})

    def test_more_are_refused_ahead_of_a_clash(self):
        for one in (row({}, "least", ONE), row({}, "most", ONE)):
            with self.assertRaises(TooMany):
                laid([one] * 17, [])
            with self.assertRaises(TooMany):
                laid([one], EIGHT + ["i"])

    def test_a_clash(self):
        rows = [row({"x": ONE}, "just", ONE, 1), row({"x": ONE}, "least", (5, 1)), row({"y": ONE}, "least", (5, 1)),
                row({"x": ONE}, "most", (3, 1))]
        with self.assertRaises(Clash) as caught:
            laid(rows, ["x", "y"])
        self.assertEqual(caught.exception.numbers, [1, 3])
        check_weights(self, rows, ["x", "y"], caught.exception.numbers, caught.exception.weights)

    def test_clashes_drawn_by_lot(self):
        draw = Draw(47)
        clashes = 0
        for count in range(200):
            rows, unknowns = draw.rows((0, 9, 10 ** 12 - 1)[count % 3], 16, 8, [0, 0, 0, 3])
            try:
                laid(rows, unknowns)
            except Clash as clash:
                clashes += 1
                check_weights(self, rows, unknowns, clash.numbers, clash.weights)
                self.assertIs(shows_clash(rows, unknowns, clash.numbers, clash.weights), True)
                placings = spared(rows, unknowns, clash.numbers)
                self.assertEqual(len(placings), len(clash.numbers))
                for number, placing in zip(clash.numbers, placings):
                    others = [rows[other] for other in clash.numbers if other != number]
                    check_fits(self, others, unknowns, placing)
        self.assertGreater(clashes, 60)


class TestSpared(LayingCase):
    rows = [row({"x": ONE}, "least", (5, 1)), row({"x": ONE}, "just", (9, 1), 2), row({"x": ONE}, "most", (3, 1)),
            row({"x": ONE, "y": MINUS}, "just", ONE), row({"y": ONE}, "least", (4, 1)), row({}, "least", ONE)]
    unknowns = ["y", "x"]

    def placings(self, numbers):
        got = spared(self.rows, self.unknowns, numbers)
        self.assertIs(type(got), list)
        self.assertEqual(len(got), len(numbers))
        for number, placing in zip(numbers, got):
            others = [self.rows[other] for other in numbers if other != number]
            check_fits(self, others, self.unknowns, placing)
        return got

    def test_no_number(self):
        self.assertEqual(self.placings([]), [])

    def test_one_number(self):
        # No other must has to be kept, and nothing else of the rows counts.
        for number in (0, 2, 3, 4, 5):
            self.placings([number])

    def test_the_numbers_of_a_clash(self):
        got = self.placings([0, 2])
        self.assertLessEqual(of(got[0]["x"]), 3)
        self.assertGreaterEqual(of(got[1]["x"]), 5)

    def test_numbers_that_do_not_clash(self):
        self.placings([0, 3, 4])
        self.placings([2, 3])

    def test_where_one_has_none(self):
        for numbers, clashing in (([0, 2, 3], [0, 2]), ([0, 5], [5]), ([2, 3, 4, 5], None), ([3, 5], [5])):
            with self.assertRaises(Clash) as caught:
                spared(self.rows, self.unknowns, numbers)
            clash = caught.exception
            if clashing is not None:
                self.assertEqual(clash.numbers, clashing)
            self.assertEqual([number for number in clash.numbers if number not in numbers], [])
            check_weights(self, self.rows, self.unknowns, clash.numbers, clash.weights)

    def test_the_first_number_without_a_placing_tells_the_clash(self):
        rows = [row({}, "least", ONE), row({}, "least", (2, 1))]
        with self.assertRaises(Clash) as caught:
            spared(rows, [], [0, 1])
        self.assertEqual((caught.exception.numbers, caught.exception.weights), ([1], [HALF]))

    def test_too_many_are_refused_ahead_of_all_else(self):
        one = row({}, "least", ONE)
        for numbers in ([], [0], [0, 1]):
            with self.assertRaises(TooMany):
                spared([one] * 17, [], numbers)
            with self.assertRaises(TooMany):
                spared([one] * 2, EIGHT + ["i"], numbers)
        self.assertEqual(list(spared([one] * 16, EIGHT, [3])[0]), EIGHT)


class TestNothingIsShared(LayingCase):
    def test_nothing_handed_in_is_changed(self):
        rows = [row({"x": ONE}, "least", (5, 1)), row({"x": ONE, "y": HALF}, "just", (3, 1), 2, 2)]
        handed = (rows, ["x", "y"])
        before = copy.deepcopy(handed)
        got = laid(*handed)
        again = copy.deepcopy(got)
        self.assertEqual(handed, before)
        got[0].clear()
        got[1].clear()
        for prices, shares in got[2]:
            prices.clear()
            shares.append(ONE)
        got[2].clear()
        self.assertEqual(handed, before)
        self.assertEqual(laid(*handed), again)

    def test_spared(self):
        numbers = [0]
        rows = [row({"x": ONE}, "least", (5, 1))]
        got = spared(rows, ["x"], numbers)
        got[0].clear()
        self.assertEqual(numbers, [0])
        self.assertEqual(list(spared(rows, ["x"], numbers)[0]), ["x"])

    def test_no_list_stands_twice_in_what_is_told(self):
        got = laid([row({"x": ONE}, "least", (5, 1))], ["x"])
        lists = [thing for paper in got[2] for thing in paper]
        self.assertEqual(len({id(thing) for thing in lists}), len(lists))

    def test_arguments_go_by_their_names(self):
        self.assertEqual(laid(unknowns=["x"], rows=[])[0], {"x": NOUGHT})
        self.assertEqual(spared(numbers=[], unknowns=["x"], rows=[]), [])


if __name__ == "__main__":
    unittest.main()
