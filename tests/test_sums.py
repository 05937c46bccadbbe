import copy
import unittest

from springframe.parts import minus, part, plus, times
from springframe.sums import added, made, put_in, reduced, scaled, unknowns, value_at

HALF = (1, 2)
NOUGHT = (0, 1)
ONE = (1, 1)
PLACING = {"x": (2, 3), "y": (-5, 1), "z": NOUGHT, "more": (7, 2)}

SUMS = (
    ({}, NOUGHT),
    ({}, (-3, 4)),
    ({"x": ONE}, NOUGHT),
    ({"x": (-1, 1)}, (5, 2)),
    ({"x": HALF, "y": (2, 3)}, (1, 6)),
    ({"y": (-2, 3), "x": HALF}, (-1, 6)),
    ({"z": (9, 4), "y": (1, 7), "x": (-1, 3)}, (10 ** 30, 7)),
)


class SumsCase(unittest.TestCase):
    def assert_sum(self, got):
        self.assertIs(type(got), tuple)
        self.assertEqual(len(got), 2)
        self.assertIs(type(got[0]), dict)
        for number in list(got[0].values()) + [got[1]]:
            self.assertIs(type(number), tuple)
            self.assertEqual(number, part(number[0], number[1]))
        self.assertNotIn(NOUGHT, got[0].values())


class TestMade(SumsCase):
    def test_parts_and_rest(self):
        self.assertEqual(made({"left a": HALF}, (4, 1)), ({"left a": HALF}, (4, 1)))

    def test_parts_that_are_nought_are_left_out(self):
        got = made({"x": NOUGHT, "y": HALF, "z": NOUGHT}, NOUGHT)
        self.assertEqual(got, ({"y": HALF}, NOUGHT))
        self.assertEqual(made({"x": NOUGHT}, ONE), ({}, ONE))

    def test_no_parts_at_all(self):
        self.assertEqual(made({}, (-7, 3)), ({}, (-7, 3)))

    def test_the_order_of_the_parts_does_not_matter(self):
        self.assertEqual(made({"x": HALF, "y": ONE}, ONE), made({"y": ONE, "x": HALF}, ONE))

    def test_other_parts_or_rests_are_other_sums(self):
        one = made({"x": HALF}, ONE)
        self.assertNotEqual(one, made({"x": HALF}, HALF))
        self.assertNotEqual(one, made({"x": ONE}, ONE))
        self.assertNotEqual(one, made({"y": HALF}, ONE))

    def test_unknowns_of_one_sign_and_of_many(self):
        parts = {" ": ONE, "left a": ONE, "X" * 50: ONE}
        self.assertEqual(made(parts, NOUGHT), (parts, NOUGHT))


class TestTogether(SumsCase):
    def test_added(self):
        got = added(({"x": HALF, "y": ONE}, (1, 3)), ({"z": (2, 1), "x": (1, 3)}, (1, 6)))
        self.assertEqual(got, ({"x": (5, 6), "y": ONE, "z": (2, 1)}, HALF))

    def test_added_parts_that_come_to_nought_are_left_out(self):
        got = added(({"x": HALF, "y": ONE}, ONE), ({"x": (-1, 2)}, (-1, 1)))
        self.assertEqual(got, ({"y": ONE}, NOUGHT))

    def test_reduced(self):
        got = reduced(({"x": HALF, "y": ONE}, (1, 3)), ({"z": (2, 1), "x": (1, 3)}, (1, 6)))
        self.assertEqual(got, ({"x": (1, 6), "y": ONE, "z": (-2, 1)}, (1, 6)))

    def test_a_sum_less_itself_is_nothing(self):
        for one in SUMS:
            self.assertEqual(reduced(one, one), ({}, NOUGHT))

    def test_added_in_either_order_is_the_same(self):
        for one in SUMS:
            for other in SUMS:
                self.assertEqual(added(one, other), added(other, one))

    def test_reduced_undoes_added(self):
        for one in SUMS:
            for other in SUMS:
                self.assertEqual(reduced(added(one, other), other), one)

    def test_both_tell_sums(self):
        for one in SUMS:
            for other in SUMS:
                self.assert_sum(added(one, other))
                self.assert_sum(reduced(one, other))


class TestScaled(SumsCase):
    def test_the_example_of_the_document(self):
        got = scaled(made({"left a": ONE}, (4, 1)), HALF)
        self.assertEqual(got, ({"left a": HALF}, (2, 1)))

    def test_by_nought_nothing_is_left(self):
        for one in SUMS:
            self.assertEqual(scaled(one, NOUGHT), ({}, NOUGHT))

    def test_by_one_it_is_an_equal_one(self):
        for one in SUMS:
            self.assertEqual(scaled(one, ONE), one)

    def test_by_what_is_below_nought(self):
        got = scaled(({"x": HALF, "y": (-2, 3)}, (4, 1)), (-3, 2))
        self.assertEqual(got, ({"x": (-3, 4), "y": ONE}, (-6, 1)))

    def test_it_tells_sums(self):
        for one in SUMS:
            self.assert_sum(scaled(one, (-6, 5)))


class TestPutIn(SumsCase):
    def test_ordinary(self):
        got = put_in(({"x": (2, 1), "y": ONE}, (3, 1)), "x", ({"z": HALF}, (5, 1)))
        self.assertEqual(got, ({"y": ONE, "z": ONE}, (13, 1)))

    def test_parts_that_both_have_come_together(self):
        got = put_in(({"x": (2, 1), "y": ONE}, NOUGHT), "x", ({"y": HALF}, NOUGHT))
        self.assertEqual(got, ({"y": (2, 1)}, NOUGHT))

    def test_parts_that_come_to_nought_are_left_out(self):
        got = put_in(({"x": (2, 1), "y": ONE}, ONE), "x", ({"y": (-1, 2)}, (-1, 2)))
        self.assertEqual(got, ({}, NOUGHT))

    def test_an_unknown_that_it_does_not_have(self):
        for one in SUMS:
            self.assertEqual(put_in(one, "none", ({"x": ONE, "y": ONE}, ONE)), one)

    def test_a_sum_that_has_the_unknown_itself(self):
        got = put_in(({"x": (2, 1)}, ONE), "x", ({"x": ONE}, (3, 1)))
        self.assertEqual(got, ({"x": (2, 1)}, (7, 1)))
        got = put_in(({"x": (2, 1), "y": ONE}, ONE), "x", ({"x": (3, 1), "y": (-1, 2)}, NOUGHT))
        self.assertEqual(got, ({"x": (6, 1)}, ONE))

    def test_an_unknown_for_itself_is_an_equal_one(self):
        for one in SUMS:
            self.assertEqual(put_in(one, "x", ({"x": ONE}, NOUGHT)), one)

    def test_a_sum_without_parts_takes_the_unknown_away(self):
        got = put_in(({"x": (-1, 2), "y": ONE}, ONE), "x", ({}, (2, 1)))
        self.assertEqual(got, ({"y": ONE}, NOUGHT))
        got = put_in(({"x": (-1, 2), "y": ONE}, ONE), "x", ({}, NOUGHT))
        self.assertEqual(got, ({"y": ONE}, ONE))

    def test_it_tells_sums(self):
        for one in SUMS:
            for other in SUMS:
                self.assert_sum(put_in(one, "x", other))


class TestValueAt(SumsCase):
    def test_ordinary(self):
        self.assertEqual(value_at(({"x": (3, 1), "y": HALF}, ONE), PLACING), HALF)

    def test_no_parts_at_all(self):
        self.assertEqual(value_at(({}, (-3, 4)), {}), (-3, 4))
        self.assertEqual(value_at(({}, (-3, 4)), PLACING), (-3, 4))

    def test_a_placing_with_no_more_than_the_unknowns(self):
        self.assertEqual(value_at(({"x": (3, 1)}, ONE), {"x": (1, 3)}), (2, 1))

    def test_in_lowest_terms(self):
        self.assertEqual(value_at(({"x": HALF}, HALF), {"x": ONE}), ONE)
        self.assertEqual(value_at(({"x": HALF}, (-1, 2)), {"x": ONE}), NOUGHT)

    def test_the_order_of_the_parts_does_not_matter(self):
        one = value_at(({"x": HALF, "y": ONE}, ONE), PLACING)
        self.assertEqual(one, value_at(({"y": ONE, "x": HALF}, ONE), PLACING))

    def test_values_go_as_the_sums_go(self):
        for one in SUMS:
            first = value_at(one, PLACING)
            self.assertEqual(value_at(scaled(one, (-6, 5)), PLACING), times(first, (-6, 5)))
            for other in SUMS:
                second = value_at(other, PLACING)
                self.assertEqual(value_at(added(one, other), PLACING), plus(first, second))
                self.assertEqual(value_at(reduced(one, other), PLACING), minus(first, second))

    def test_a_sum_put_in_counts_by_its_value(self):
        for one in SUMS:
            for other in SUMS:
                placing = dict(PLACING, x=value_at(other, PLACING))
                self.assertEqual(value_at(put_in(one, "x", other), PLACING), value_at(one, placing))


class TestUnknowns(SumsCase):
    def test_sorted_as_texts(self):
        one = ({"width b": ONE, "left b": ONE, "left a": ONE, "x10": ONE, "x9": ONE, "X": ONE}, ONE)
        self.assertEqual(unknowns(one), ["X", "left a", "left b", "width b", "x10", "x9"])

    def test_no_parts_at_all(self):
        self.assertEqual(unknowns(({}, ONE)), [])

    def test_only_those_that_are_left(self):
        self.assertEqual(unknowns(made({"y": ONE, "x": NOUGHT}, ONE)), ["y"])


class TestNothingIsShared(SumsCase):
    def calls(self):
        one = ({"x": HALF, "y": (2, 3)}, (1, 6))
        other = ({"x": (-1, 2), "z": ONE}, (1, 3))
        return (
            (made, ({"x": HALF, "y": NOUGHT}, ONE)),
            (made, ({"x": HALF, "y": ONE}, ONE)),
            (added, (one, other)),
            (added, (one, ({}, NOUGHT))),
            (added, (({}, NOUGHT), one)),
            (added, (one, one)),
            (reduced, (one, other)),
            (reduced, (one, ({}, NOUGHT))),
            (scaled, (one, (3, 1))),
            (scaled, (one, ONE)),
            (put_in, (one, "x", other)),
            (put_in, (one, "none", other)),
            (put_in, (({"x": ONE}, NOUGHT), "x", other)),
            (value_at, (one, dict(PLACING))),
            (unknowns, (one,)),
        )

    def test_nothing_handed_in_is_changed(self):
        for call, handed in self.calls():
            before = copy.deepcopy(handed)
            call(*handed)
            self.assertEqual(handed, before)

    def test_changing_what_was_handed_in_changes_nothing_told(self):
        for call, shown in self.calls():
            # Its own copy, since the calls share their sums.
            handed = copy.deepcopy(shown)
            got = call(*handed)
            before = copy.deepcopy(got)
            for thing in handed:
                self.spoil(thing)
            self.assertEqual(got, before)

    def test_changing_what_was_told_changes_nothing_else(self):
        for call, handed in self.calls():
            before = copy.deepcopy(handed)
            got = call(*handed)
            again = copy.deepcopy(got)
            self.spoil(got)
            self.assertEqual(handed, before)
            self.assertEqual(call(*handed), again)

    def spoil(self, thing):
        if isinstance(thing, dict):
            thing.clear()
            thing["spoilt"] = ONE
        if isinstance(thing, list):
            thing.clear()
        if isinstance(thing, tuple):
            for inner in thing:
                self.spoil(inner)


class TestNames(SumsCase):
    def test_arguments_go_by_their_names(self):
        one = ({"x": ONE}, ONE)
        self.assertEqual(made(rest=ONE, parts={"x": ONE}), one)
        self.assertEqual(added(other=({}, ONE), one=one), ({"x": ONE}, (2, 1)))
        self.assertEqual(reduced(other=({}, ONE), one=one), ({"x": ONE}, NOUGHT))
        self.assertEqual(scaled(number=HALF, one=one), ({"x": HALF}, HALF))
        self.assertEqual(put_in(other=({}, ONE), unknown="x", one=one), ({}, (2, 1)))
        self.assertEqual(value_at(placing={"x": HALF}, one=one), (3, 2))
        self.assertEqual(unknowns(one=one), ["x"])


if __name__ == "__main__":
    unittest.main()
