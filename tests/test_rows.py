import copy
import unittest

from springframe.errors import NoRank, NoWish
from springframe.rows import fits, goal_at, missed, row, sum_at

ONE = (1, 1)
HALF = (1, 2)
NOUGHT = (0, 1)
KINDS = ("least", "most", "just")


class TestRow(unittest.TestCase):
    def test_its_five_things(self):
        for kind in KINDS:
            got = row({"x": ONE, "y": HALF}, kind, (-3, 2), 3, 7)
            self.assertEqual(got, ({"x": ONE, "y": HALF}, kind, (-3, 2), 3, 7))
            self.assertIs(type(got), tuple)

    def test_rank_and_weight_may_be_left_out(self):
        self.assertEqual(row({"x": ONE}, "least", ONE), ({"x": ONE}, "least", ONE, 0, 1))
        self.assertEqual(row({"x": ONE}, "least", ONE, 4), ({"x": ONE}, "least", ONE, 4, 1))
        self.assertEqual(row({"x": ONE}, "least", ONE, weight=4), ({"x": ONE}, "least", ONE, 0, 4))

    def test_parts_that_are_nought_are_left_out(self):
        self.assertEqual(row({"x": NOUGHT, "y": ONE, "z": NOUGHT}, "most", NOUGHT)[0], {"y": ONE})
        self.assertEqual(row({"x": NOUGHT}, "just", ONE)[0], {})

    def test_no_parts_at_all(self):
        self.assertEqual(row({}, "just", ONE), ({}, "just", ONE, 0, 1))

    def test_another_kind_is_refused(self):
        for kind in ("", "Least", "is", "at least", "leas", "least ", 0, None, ("least",), ["just"], {}):
            with self.subTest(kind):
                with self.assertRaises(NoWish):
                    row({}, kind, ONE)

    def test_ranks_from_nought_to_four(self):
        for rank in range(5):
            self.assertEqual(row({}, "just", ONE, rank)[3], rank)
        for rank in (-1, 5, -4, 10 ** 9):
            with self.assertRaises(NoRank):
                row({}, "just", ONE, rank)

    def test_weights_from_one_to_a_million(self):
        for rank in (0, 2):
            for weight in (1, 2, 999999, 10 ** 6):
                self.assertEqual(row({}, "just", ONE, rank, weight)[4], weight)
            for weight in (0, -1, 10 ** 6 + 1, 10 ** 9):
                with self.assertRaises(NoRank):
                    row({}, "just", ONE, rank, weight)

    def test_the_kind_is_refused_ahead_of_the_rank(self):
        for rank, weight in ((5, 1), (-1, 1), (0, 0), (5, 10 ** 6 + 1)):
            with self.assertRaises(NoWish):
                row({}, "atleast", ONE, rank, weight)

    def test_nothing_is_shared(self):
        parts = {"x": ONE, "y": HALF}
        got = row(parts, "just", ONE)
        parts["x"] = (7, 1)
        self.assertEqual(got[0], {"x": ONE, "y": HALF})
        got[0].clear()
        self.assertEqual(parts, {"x": (7, 1), "y": HALF})

    def test_arguments_go_by_their_names(self):
        self.assertEqual(row(weight=2, rank=1, number=ONE, kind="most", parts={}), ({}, "most", ONE, 1, 2))


class TestAtAPlacing(unittest.TestCase):
    def rows(self):
        return [row({"x": (2, 1), "y": (-1, 2)}, kind, (3, 1), 2, 5) for kind in KINDS]

    def test_sum_at(self):
        placing = {"x": (1, 3), "y": ONE, "more": ONE}
        for one in self.rows():
            self.assertEqual(sum_at(one, placing), (1, 6))
        self.assertEqual(sum_at(row({}, "just", ONE), placing), NOUGHT)
        self.assertEqual(sum_at(row({}, "just", ONE), {}), NOUGHT)
        self.assertEqual(sum_at(self.rows()[0], {"x": (-1, 1), "y": (2, 1)}), (-3, 1))

    def test_just_kept(self):
        placing = {"x": (2, 1), "y": (2, 1)}
        self.assertEqual([missed(one, placing) for one in self.rows()], [NOUGHT] * 3)

    def test_just_missed_below(self):
        placing = {"x": (2, 1), "y": (1000002, 500000)}
        self.assertEqual([missed(one, placing) for one in self.rows()], [(1, 500000), NOUGHT, (1, 500000)])

    def test_just_missed_above(self):
        placing = {"x": (2, 1), "y": (999998, 500000)}
        self.assertEqual([missed(one, placing) for one in self.rows()], [NOUGHT, (1, 500000), (1, 500000)])

    def test_weight_and_rank_are_no_matter_to_what_is_missed(self):
        for rank in range(5):
            self.assertEqual(missed(row({"x": ONE}, "least", (5, 1), rank, 9), {"x": (3, 1)}), (2, 1))

    def test_rows_without_parts(self):
        self.assertEqual([missed(row({}, kind, ONE), {}) for kind in KINDS], [ONE, NOUGHT, ONE])
        self.assertEqual([missed(row({}, kind, (-1, 1)), {}) for kind in KINDS], [NOUGHT, ONE, ONE])
        self.assertEqual([missed(row({}, kind, NOUGHT), {}) for kind in KINDS], [NOUGHT] * 3)


class TestFits(unittest.TestCase):
    def test_musts_are_kept(self):
        rows = [row({"x": ONE}, "least", (2, 1)), row({"x": ONE}, "most", (3, 1))]
        for told, wanted in (((2, 1), True), ((5, 2), True), ((3, 1), True), ((19, 10), False), ((31, 10), False)):
            self.assertIs(fits(rows, {"x": told}), wanted)
        self.assertIs(fits([row({"x": ONE}, "just", HALF)], {"x": HALF}), True)
        self.assertIs(fits([row({"x": ONE}, "just", HALF)], {"x": ONE}), False)

    def test_other_rows_are_no_matter(self):
        for rank in (1, 2, 3, 4):
            self.assertIs(fits([row({"x": ONE}, "just", (7, 1), rank)], {"x": ONE}), True)

    def test_a_fraction_below_nought(self):
        self.assertIs(fits([], {"x": (-1, 10 ** 9)}), False)
        self.assertIs(fits([], {"x": ONE, "y": (-1, 1)}), False)
        self.assertIs(fits([row({"x": ONE}, "just", (-1, 1))], {"x": (-1, 1)}), False)
        self.assertIs(fits([], {"x": NOUGHT}), True)

    def test_no_rows_and_no_unknowns(self):
        self.assertIs(fits([], {}), True)
        self.assertIs(fits([row({}, "least", ONE)], {}), False)
        self.assertIs(fits([row({}, "most", ONE)], {}), True)

    def test_any_must_counts(self):
        rows = [row({"x": ONE}, "most", (9, 1)), row({"x": ONE}, "least", (2, 1))]
        self.assertIs(fits(rows, {"x": ONE}), False)
        self.assertIs(fits(rows[::-1], {"x": ONE}), False)


class TestGoalAt(unittest.TestCase):
    rows = [row({"x": ONE}, "least", (5, 1), 2, 3), row({"x": ONE}, "just", ONE, 2, 10), row({"x": ONE}, "most", HALF, 3, 4),
            row({"x": ONE}, "just", (100, 1)), row({"x": ONE}, "least", (9, 1), 4, 10 ** 6)]

    def test_ranks(self):
        placing = {"x": (3, 1)}
        self.assertEqual(goal_at(self.rows, 2, placing), (3 * 2 + 10 * 2, 1))
        self.assertEqual(goal_at(self.rows, 3, placing), (10, 1))
        self.assertEqual(goal_at(self.rows, 4, placing), (6 * 10 ** 6, 1))

    def test_a_rank_that_no_row_has(self):
        self.assertEqual(goal_at(self.rows, 1, {"x": (3, 1)}), NOUGHT)
        self.assertEqual(goal_at([], 4, {}), NOUGHT)

    def test_kept_rows_count_nothing(self):
        self.assertEqual(goal_at(self.rows, 4, {"x": (9, 1)}), NOUGHT)

    def test_unknowns(self):
        self.assertEqual(goal_at(self.rows, "x", {"x": (3, 7)}), (3, 7))
        self.assertEqual(goal_at([], "2", {"2": HALF}), HALF)


class TestNothingIsChanged(unittest.TestCase):
    def test_handed_in(self):
        rows = [row({"x": ONE, "y": HALF}, kind, ONE, rank, 3) for kind in KINDS for rank in (0, 2)]
        placing = {"x": ONE, "y": HALF}
        before = copy.deepcopy((rows, placing))
        sum_at(one=rows[0], placing=placing)
        missed(one=rows[0], placing=placing)
        fits(rows=rows, placing=placing)
        goal_at(rows=rows, goal=2, placing=placing)
        self.assertEqual((rows, placing), before)


if __name__ == "__main__":
    unittest.main()
