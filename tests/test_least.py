import copy
import unittest
from fractions import Fraction

from checks import Draw, check_fits, check_least, check_weights, sum_of
from springframe.errors import Clash, TooMany
from springframe.least import least
from springframe.rows import row

ONE = (1, 1)
HALF = (1, 2)
NOUGHT = (0, 1)
MINUS = (-1, 1)
EIGHT = ["a", "b", "c", "d", "e", "f", "g", "h"]


class LeastCase(unittest.TestCase):
    def told(self, rows, unknowns, one):
        got = least(rows, unknowns, one)
        check_least(self, rows, unknowns, one, got)
        return got


class TestLeast(LeastCase):
    def test_at_a_corner(self):
        rows = [row({"x": ONE}, "least", (5, 1)), row({"x": ONE, "y": ONE}, "least", (9, 1))]
        got = self.told(rows, ["x", "y"], ({"x": (3, 1), "y": (2, 1)}, HALF))
        self.assertEqual(got, ("least", {"x": (5, 1), "y": (4, 1)}, [ONE, (2, 1)]))

    def test_at_many_placings(self):
        one = ({"x": ONE, "y": ONE}, NOUGHT)
        got = self.told([row({"x": (2, 1), "y": (2, 1)}, "just", (5, 1))], ["x", "y"], one)
        self.assertEqual(sum_of(one, got[1]), Fraction(5, 2))
        self.assertEqual(got[2], [HALF])

    def test_rows_that_are_no_musts_cost_nothing(self):
        rows = [row({"x": ONE}, "least", (50, 1), rank, 9) for rank in (1, 2, 3, 4)]
        rows.insert(2, row({"x": ONE}, "least", (5, 1)))
        got = self.told(rows, ["x"], ({"x": ONE}, NOUGHT))
        self.assertEqual(got, ("least", {"x": (5, 1)}, [NOUGHT, NOUGHT, ONE, NOUGHT, NOUGHT]))

    def test_falling_without_end(self):
        rows = [row({"x": ONE, "y": MINUS}, "just", (2, 1)), row({"y": ONE}, "least", (1, 3)),
                row({"x": ONE}, "most", ONE, 2)]
        got = self.told(rows, ["y", "x"], ({"x": (-1, 2), "y": (1, 3)}, ONE))
        self.assertEqual(got[0], "falls")
        self.assertEqual(got[2], {"y": (6, 1), "x": (6, 1)})

    def test_it_does_not_fall_where_a_must_stops_it(self):
        rows = [row({"x": ONE, "y": MINUS}, "just", (2, 1)), row({"y": ONE}, "most", (1, 3))]
        got = self.told(rows, ["y", "x"], ({"x": (-1, 2), "y": (1, 3)}, ONE))
        self.assertEqual(got[:2], ("least", {"y": (1, 3), "x": (7, 3)}))

    def test_no_rows_and_no_unknowns(self):
        self.assertEqual(self.told([], [], ({}, (-7, 2))), ("least", {}, []))
        self.assertEqual(self.told([], ["x"], ({}, NOUGHT)), ("least", {"x": NOUGHT}, []))
        self.assertEqual(self.told([], ["x"], ({"x": (5, 1)}, NOUGHT)), ("least", {"x": NOUGHT}, []))
        self.assertEqual(self.told([], ["x"], ({"x": (-5, 1)}, NOUGHT)), ("falls", {"x": NOUGHT}, {"x": (1, 5)}))

    def test_placings_have_the_unknowns_in_their_order(self):
        for unknowns in (EIGHT, EIGHT[::-1]):
            self.assertEqual(list(self.told([], unknowns, ({"a": ONE}, NOUGHT))[1]), unknowns)

    def test_rows_drawn_by_lot(self):
        draw = Draw(17)
        seen = {"least": 0, "falls": 0, "clash": 0}
        for count in range(450):
            figures = (0, 9, 10 ** 12 - 1)[count % 3]
            rows, unknowns = draw.rows(figures, 16, 8, [0, 0, 1, 4])
            try:
                got = self.told(rows, unknowns, draw.sum(figures, unknowns))
            except Clash as clash:
                check_weights(self, rows, unknowns, clash.numbers, clash.weights)
                seen["clash"] += 1
            else:
                seen[got[0]] += 1
        self.assertGreater(min(seen.values()), 50)


class TestRefusals(LeastCase):
    def test_sixteen_rows_and_eight_unknowns(self):
        rows = [row({name: ONE}, "least", (3, 1)) for name in EIGHT + EIGHT]
        got = self.told(rows, EIGHT, ({name: ONE for name in EIGHT}, NOUGHT))
        self.assertEqual(set(got[1].values()), {(3, 1)})

    def test_more_rows_are_refused(self):
        with self.assertRaises(TooMany):
            least([row({}, "most", ONE, 3)] * 17, EIGHT, ({}, NOUGHT))

    def test_more_unknowns_are_refused(self):
        with self.assertRaises(TooMany):
            least([], EIGHT + ["i"], ({}, NOUGHT))

    def test_too_many_comes_ahead_of_a_clash(self):
        with self.assertRaises(TooMany):
            least([row({}, "least", ONE)] * 17, [], ({}, NOUGHT))
        with self.assertRaises(TooMany):
            least([row({}, "least", ONE)], EIGHT + ["i"], ({}, NOUGHT))

    def test_a_clash(self):
        rows = [row({"y": ONE}, "least", ONE), row({"x": ONE}, "least", (5, 1)), row({"x": ONE}, "just", (9, 1), 2),
                row({"x": ONE, "y": ONE}, "most", (3, 1))]
        with self.assertRaises(Clash) as caught:
            least(rows, ["x", "y"], ({"x": (-1, 1)}, NOUGHT))
        clash = caught.exception
        self.assertEqual(clash.numbers, [1, 3])
        check_weights(self, rows, ["x", "y"], clash.numbers, clash.weights)

    def test_no_number_of_a_clash_can_be_left_out(self):
        draw = Draw(23)
        clashes = 0
        for count in range(200):
            rows, unknowns = draw.rows((0, 9)[count % 2], 16, 8, [0, 0, 0, 2])
            try:
                least(rows, unknowns, ({}, NOUGHT))
            except Clash as clash:
                clashes += 1
                check_weights(self, rows, unknowns, clash.numbers, clash.weights)
                for number in clash.numbers:
                    others = [rows[other] for other in clash.numbers if other != number]
                    check_fits(self, others, unknowns, least(others, unknowns, ({}, NOUGHT))[1])
        self.assertGreater(clashes, 50)


class TestNothingIsShared(LeastCase):
    def test_nothing_handed_in_is_changed(self):
        rows = [row({"x": ONE, "y": MINUS}, "just", (2, 1)), row({"y": ONE}, "most", (1, 3), 2)]
        for parts in ({"x": ONE}, {"x": MINUS}):
            handed = (rows, ["x", "y"], (parts, ONE))
            before = copy.deepcopy(handed)
            got = least(*handed)
            again = copy.deepcopy(got)
            self.assertEqual(handed, before)
            got[1].clear()
            got[2].clear()
            self.assertEqual(handed, before)
            self.assertEqual(least(*handed), again)

    def test_arguments_go_by_their_names(self):
        self.assertEqual(least(one=({}, ONE), unknowns=[], rows=[]), ("least", {}, []))


if __name__ == "__main__":
    unittest.main()
