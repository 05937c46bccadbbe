import unittest
from fractions import Fraction
from math import gcd

from springframe.errors import FrameError, NoPart
from springframe.parts import minus, over, part, plus, times, under

SMALL = sorted({part(top, bottom) for top in range(-6, 7) for bottom in range(1, 6)})


def exact(fraction):
    return Fraction(fraction[0], fraction[1])


def told(value):
    return (value.numerator, value.denominator)


class PartsCase(unittest.TestCase):
    def assert_fraction(self, got):
        self.assertIs(type(got), tuple)
        self.assertEqual([type(number) for number in got], [int, int])
        self.assertGreaterEqual(got[1], 1)
        self.assertEqual(gcd(got[0], got[1]), 1)


class TestPart(PartsCase):
    def test_the_examples_of_the_document(self):
        self.assertEqual(part(6, -4), (-3, 2))
        self.assertEqual(part(0, 7), (0, 1))

    def test_signs(self):
        self.assertEqual(part(3, 2), (3, 2))
        self.assertEqual(part(-3, 2), (-3, 2))
        self.assertEqual(part(3, -2), (-3, 2))
        self.assertEqual(part(-3, -2), (3, 2))

    def test_top_nought_has_the_bottom_one(self):
        for bottom in (1, -1, 2, -9, 10 ** 50, -(10 ** 50)):
            self.assertEqual(part(0, bottom), (0, 1))

    def test_whole_numbers_have_the_bottom_one(self):
        self.assertEqual(part(8, 4), (2, 1))
        self.assertEqual(part(-8, 4), (-2, 1))
        self.assertEqual(part(5, -1), (-5, 1))
        self.assertEqual(part(7, 7), (1, 1))

    def test_every_small_pair_comes_in_lowest_terms(self):
        for top in range(-24, 25):
            for bottom in range(-24, 25):
                if bottom != 0:
                    got = part(top, bottom)
                    self.assert_fraction(got)
                    self.assertEqual(got, told(Fraction(top, bottom)))

    def test_great_numbers_are_exact(self):
        great = 10 ** 3000 + 7
        self.assertEqual(part(great * 12, great * -18), (-2, 3))
        self.assertEqual(part(great, great + 1), (great, great + 1))
        self.assertEqual(part(2 * great + 1, 2), (2 * great + 1, 2))
        self.assertEqual(part(7 ** 3000, 21 ** 1500), (7 ** 1500, 3 ** 1500))

    def test_neighbours_that_divide_slowest(self):
        one, other = 1, 1
        while one < 10 ** 1000:
            one, other = one + other, one
        self.assertEqual(part(one * 6, other * -4), told(Fraction(one * 6, other * -4)))

    def test_bottom_nought_is_refused(self):
        for top in (0, 1, -1, 10 ** 40):
            with self.assertRaises(NoPart):
                part(top, 0)

    def test_the_refusal_is_a_frame_error_and_a_value_error(self):
        for kind in (FrameError, ValueError):
            with self.assertRaises(kind):
                part(1, 0)


class TestReckoning(PartsCase):
    def test_every_small_pair_is_reckoned_exactly(self):
        for one in SMALL:
            for other in SMALL:
                left, right = exact(one), exact(other)
                self.assertEqual(plus(one, other), told(left + right))
                self.assertEqual(minus(one, other), told(left - right))
                self.assertEqual(times(one, other), told(left * right))
                self.assertIs(under(one, other), left < right)
                if right != 0:
                    self.assertEqual(over(one, other), told(left / right))

    def test_what_is_told_is_in_lowest_terms(self):
        for one in SMALL:
            for other in SMALL:
                for reckon in (plus, minus, times, over):
                    if reckon is not over or other[0] != 0:
                        self.assert_fraction(reckon(one, other))

    def test_what_comes_to_nought(self):
        self.assertEqual(plus((1, 3), (-1, 3)), (0, 1))
        self.assertEqual(minus((5, 6), (5, 6)), (0, 1))
        self.assertEqual(times((0, 1), (5, 6)), (0, 1))
        self.assertEqual(over((0, 1), (-5, 6)), (0, 1))

    def test_over_what_is_below_nought(self):
        self.assertEqual(over((1, 2), (-3, 4)), (-2, 3))
        self.assertEqual(over((-1, 2), (-3, 4)), (2, 3))

    def test_over_nought_is_refused(self):
        for one in ((0, 1), (1, 1), (-7, 3)):
            with self.assertRaises(NoPart):
                over(one, (0, 1))

    def test_great_numbers_are_exact(self):
        great = 10 ** 1500
        one, other = (great + 1, great), (1 - great, great)
        self.assertEqual(plus(one, other), (1, great // 2))
        self.assertEqual(minus(one, other), (2, 1))
        self.assertEqual(times((great, 3), (3, great)), (1, 1))
        self.assertEqual(over((great, 3), (great, 6)), (2, 1))

    def test_under_tells_apart_what_lies_close(self):
        great = 10 ** 1500
        self.assertIs(under((great, great + 1), (great + 1, great + 2)), True)
        self.assertIs(under((great + 1, great + 2), (great, great + 1)), False)

    def test_nothing_is_under_its_equal(self):
        for one in SMALL:
            self.assertIs(under(one, one), False)

    def test_under_below_nought(self):
        self.assertIs(under((-1, 2), (-1, 3)), True)
        self.assertIs(under((-1, 3), (-1, 2)), False)
        self.assertIs(under((-1, 2), (0, 1)), True)

    def test_arguments_go_by_their_names(self):
        self.assertEqual(part(bottom=4, top=2), (1, 2))
        self.assertEqual(plus(other=(1, 3), one=(1, 2)), (5, 6))
        self.assertEqual(minus(other=(1, 3), one=(1, 2)), (1, 6))
        self.assertEqual(times(other=(1, 3), one=(1, 2)), (1, 6))
        self.assertEqual(over(other=(1, 3), one=(1, 2)), (3, 2))
        self.assertIs(under(other=(1, 3), one=(1, 2)), False)


if __name__ == "__main__":
    unittest.main()
