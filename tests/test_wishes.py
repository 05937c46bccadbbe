import copy
import unittest

from springframe import wishes
from springframe.errors import Mixed
from springframe.wishes import AtLeast, AtMost, Just, Wish
from springframe.words import Edge, Minus, Number, Plus, Times

ONE = (1, 1)
HALF = (1, 2)
NOUGHT = (0, 1)
LEFT = Edge("left", "a")
TOP = Edge("top", "b")
FOUR = Number((4, 1))
KINDS = ((Just, "just", "is"), (AtLeast, "least", "at least"), (AtMost, "most", "at most"))


class TestClasses(unittest.TestCase):
    def test_the_three_kinds_stand_under_wish(self):
        for name in ("Just", "AtLeast", "AtMost"):
            self.assertEqual(getattr(wishes, name).__bases__, (Wish,))
            self.assertEqual(getattr(wishes, name).__subclasses__(), [])

    def test_fields(self):
        for kind, name, verb in KINDS:
            wish = kind(near=LEFT, far=FOUR, rank=2, weight=3)
            self.assertEqual(vars(wish), {"near": LEFT, "far": FOUR, "rank": 2, "weight": 3})


class TestWay(unittest.TestCase):
    def test_across_and_down(self):
        for kind, name, verb in KINDS:
            self.assertEqual(kind(LEFT, FOUR, 0, 1).way(), "across")
            self.assertEqual(kind(FOUR, LEFT, 0, 1).way(), "across")
            self.assertEqual(kind(TOP, FOUR, 0, 1).way(), "down")
            self.assertEqual(kind(FOUR, TOP, 0, 1).way(), "down")
            self.assertEqual(kind(Edge("drop", "g"), Edge("height", "frame"), 0, 1).way(), "down")

    def test_without_words_it_is_across(self):
        self.assertEqual(Just(FOUR, FOUR, 0, 1).way(), "across")

    def test_words_that_come_to_nothing_count(self):
        self.assertEqual(Just(Times(NOUGHT, TOP), FOUR, 0, 1).way(), "down")
        self.assertEqual(Just(Edge("top", "frame"), FOUR, 0, 1).way(), "down")

    def test_words_of_both_ways_are_refused(self):
        both = ((LEFT, TOP), (TOP, LEFT), (Plus(LEFT, TOP), FOUR), (FOUR, Minus(TOP, LEFT)),
                (Times(NOUGHT, LEFT), TOP), (Edge("left", "frame"), TOP), (Edge("gap", "g"), Edge("drop", "g")))
        for kind, name, verb in KINDS:
            for near, far in both:
                for rank in (0, 3):
                    with self.assertRaises(Mixed):
                        kind(near, far, rank, 1)


class TestRow(unittest.TestCase):
    def test_each_kind(self):
        for kind, name, verb in KINDS:
            got = kind(Plus(Edge("right", "a"), FOUR), Edge("left", "b"), 2, 3).row()
            self.assertEqual(got, ({"left a": ONE, "width a": ONE, "left b": (-1, 1)}, name, (-4, 1), 2, 3))
            self.assertIs(type(got), tuple)

    def test_each_rank_and_weight(self):
        for rank in range(5):
            for weight in (1, 2, 10 ** 6):
                self.assertEqual(Just(LEFT, FOUR, rank, weight).row(),
                                 ({"left a": ONE}, "just", (4, 1), rank, weight))

    def test_numbers_on_both_sides(self):
        got = AtLeast(Plus(LEFT, FOUR), Number(HALF), 0, 1).row()
        self.assertEqual(got, ({"left a": ONE}, "least", (-7, 2), 0, 1))

    def test_terms_that_come_to_nothing(self):
        self.assertEqual(Just(LEFT, LEFT, 1, 1).row(), ({}, "just", NOUGHT, 1, 1))
        self.assertEqual(AtMost(Times(NOUGHT, LEFT), FOUR, 0, 1).row(), ({}, "most", (4, 1), 0, 1))
        self.assertEqual(AtMost(FOUR, FOUR, 0, 1).row(), ({}, "most", NOUGHT, 0, 1))

    def test_it_is_a_new_one_each_time(self):
        wish = Just(LEFT, FOUR, 0, 1)
        wish.row()[0].clear()
        self.assertEqual(wish.row(), ({"left a": ONE}, "just", (4, 1), 0, 1))


class TestMissed(unittest.TestCase):
    def missed(self, left):
        placing = {"left a": left, "more": ONE}
        return [kind(LEFT, FOUR, 2, 5).missed(placing) for kind, name, verb in KINDS]

    def test_kept(self):
        self.assertEqual(self.missed((4, 1)), [NOUGHT, NOUGHT, NOUGHT])

    def test_below(self):
        self.assertEqual(self.missed((7, 2)), [HALF, HALF, NOUGHT])

    def test_above(self):
        self.assertEqual(self.missed((13, 3)), [(1, 3), NOUGHT, (1, 3)])

    def test_terms_on_both_sides(self):
        placing = {"left a": (3, 1), "width a": (5, 1), "width frame": (10, 1)}
        self.assertEqual(AtLeast(Edge("right", "a"), Edge("width", "frame"), 0, 1).missed(placing), (2, 1))
        self.assertEqual(AtMost(Edge("right", "frame"), Edge("middle", "a"), 0, 1).missed(placing), (9, 2))

    def test_what_comes_to_nothing_is_not_asked(self):
        self.assertEqual(Just(Minus(LEFT, LEFT), FOUR, 0, 1).missed({}), (4, 1))

    def test_the_placing_is_not_changed(self):
        placing = {"left a": HALF}
        before = copy.deepcopy(placing)
        Just(LEFT, FOUR, 0, 1).missed(placing)
        self.assertEqual(placing, before)


class TestText(unittest.TestCase):
    def test_the_example_of_the_document(self):
        wish = AtMost(Plus(Edge("right", "a"), FOUR), Edge("left", "b"), 2, 3)
        self.assertEqual(wish.text(), "right of a and 4 at most left of b by strong 3")

    def test_each_kind(self):
        for kind, name, verb in KINDS:
            self.assertEqual(kind(LEFT, FOUR, 0, 1).text(), f"left of a {verb} 4")

    def test_each_rank(self):
        for rank, name in ((1, "hand"), (2, "strong"), (3, "fair"), (4, "faint")):
            self.assertEqual(Just(LEFT, FOUR, rank, 1).text(), f"left of a is 4 by {name}")
            self.assertEqual(Just(LEFT, FOUR, rank, 2).text(), f"left of a is 4 by {name} 2")
            self.assertEqual(Just(LEFT, FOUR, rank, 10 ** 6).text(), f"left of a is 4 by {name} 1000000")

    def test_the_weight_of_a_must_is_not_written(self):
        for weight in (1, 2, 10 ** 6):
            self.assertEqual(Just(LEFT, FOUR, 0, weight).text(), "left of a is 4")

    def test_sums_on_both_sides_have_no_brackets(self):
        wish = Just(Plus(LEFT, FOUR), Minus(FOUR, Plus(LEFT, FOUR)), 0, 1)
        self.assertEqual(wish.text(), "left of a and 4 is 4 less ( left of a and 4 )")


if __name__ == "__main__":
    unittest.main()
