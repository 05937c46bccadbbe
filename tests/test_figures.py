import unittest
from fractions import Fraction

from springframe.errors import NoWish
from springframe.figures import read_number, show_number

GOOD = (
    ("0", (0, 1)),
    ("7", (7, 1)),
    ("-7", (-7, 1)),
    ("10", (10, 1)),
    ("1/2", (1, 2)),
    ("-3/4", (-3, 4)),
    ("6/35", (6, 35)),
    ("999999", (999999, 1)),
    ("-999999", (-999999, 1)),
    ("999998/999999", (999998, 999999)),
    ("1/100000", (1, 100000)),
)
NOUGHT_AHEAD = ("00", "01", "-01", "01/2", "1/02", "007", "0000001")
SIGNS = ("-0", "+1", "--1", "- 1", "1-", "-", "-1/-2", "1/-2", "-/2", "+0")
NO_LOWEST_TERMS = ("2/4", "0/3", "6/3", "-10/15", "3/1", "0/1", "-0/2", "1/1")
BOTTOM_NOUGHT = ("1/0", "0/0", "-1/0")
TOO_LONG = ("1000000", "-1000000", "1/1000000", "1000001/2", "123456789")
OTHER = ("", "/", "1/", "/2", "1/2/3", "1//2", " 1", "1 ", "1 /2", "a", "1a", "1.5", "1e3", "0x1", "1x", "1_0", "times",
         "\u0661", "\u00b2", "\uff11", "1\n", "\t1", "1/2 ")


class TestReadNumber(unittest.TestCase):
    def assert_refused(self, words):
        for word in words:
            with self.subTest(word):
                with self.assertRaises(NoWish):
                    read_number(word)

    def test_good_words(self):
        for word, number in GOOD:
            with self.subTest(word):
                self.assertEqual(read_number(word), number)

    def test_kinds(self):
        for word, number in GOOD:
            got = read_number(word)
            self.assertIs(type(got), tuple)
            self.assertEqual([type(whole) for whole in got], [int, int])

    def test_a_nought_ahead_is_refused(self):
        self.assert_refused(NOUGHT_AHEAD)

    def test_wrong_signs_are_refused(self):
        self.assert_refused(SIGNS)

    def test_what_is_not_in_lowest_terms_is_refused(self):
        self.assert_refused(NO_LOWEST_TERMS)

    def test_a_bottom_of_nought_is_refused(self):
        self.assert_refused(BOTTOM_NOUGHT)

    def test_more_than_six_figures_are_refused(self):
        self.assert_refused(TOO_LONG)

    def test_all_else_is_refused(self):
        self.assert_refused(OTHER)

    def test_each_small_number_is_read_by_one_word_alone(self):
        for top in range(-12, 13):
            for bottom in range(1, 13):
                value = Fraction(top, bottom)
                lowest = (value.numerator, value.denominator) == (top, bottom)
                word = f"{top}/{bottom}"
                if lowest and bottom > 1:
                    self.assertEqual(read_number(word), (top, bottom))
                else:
                    self.assert_refused([word])


class TestShowNumber(unittest.TestCase):
    def test_good_words_are_shown_again(self):
        for word, number in GOOD:
            self.assertEqual(show_number(number), word)

    def test_whatever_figures_it_has(self):
        self.assertEqual(show_number((10 ** 6, 1)), "1000000")
        self.assertEqual(show_number((-(10 ** 30), 7)), "-" + "1" + "0" * 30 + "/7")
        self.assertEqual(show_number((1, 10 ** 3998)), "1/1" + "0" * 3998)
        self.assertEqual(show_number((10 ** 3999, 1)), "1" + "0" * 3999)

    def test_arguments_go_by_their_names(self):
        self.assertEqual(read_number(word="1/2"), (1, 2))
        self.assertEqual(show_number(number=(1, 2)), "1/2")


if __name__ == "__main__":
    unittest.main()
