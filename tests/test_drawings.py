import copy
import unittest
from fractions import Fraction

from springframe.drawings import drawn
from springframe.frames import Frame


def place(*numbers):
    """(left, top, width, height), of whole numbers or fractions."""
    return tuple((Fraction(number).numerator, Fraction(number).denominator) for number in numbers)


def drawn_square_by_square(places, wide, high):
    """The drawing by its very definition."""
    def sign(x, y):
        seen = "."
        for name in sorted(places):
            left, top, width, height = [Fraction(*number) for number in places[name]]
            middle = (x + Fraction(1, 2), y + Fraction(1, 2))
            if left <= middle[0] < left + width and top <= middle[1] < top + height:
                seen = name[0]
        return seen

    return ["".join(sign(x, y) for x in range(wide)) for y in range(high)]


class TestDrawn(unittest.TestCase):
    def test_an_ordinary_drawing(self):
        places = {"menu": place(0, 0, 3, 4), "text": place(4, 1, 5, 2)}
        self.assertEqual(drawn(places, 10, 5), ["mmm.......", "mmm.ttttt.", "mmm.ttttt.", "mmm.......", ".........."])

    def test_no_panes(self):
        self.assertEqual(drawn({}, 3, 2), ["...", "..."])
        self.assertEqual(drawn({}, 1, 1), ["."])

    def test_one_by_one(self):
        self.assertEqual(drawn({"a": place(0, 0, 1, 1)}, 1, 1), ["a"])
        self.assertEqual(drawn({"a": place(1, 0, 1, 1)}, 1, 1), ["."])
        self.assertEqual(drawn({"a": place(0, 1, 1, 1)}, 1, 1), ["."])

    def test_sixty_by_sixty(self):
        got = drawn({"a": place(0, 0, 60, 60), "b": place(59, 59, 1, 1)}, 60, 60)
        self.assertEqual(got, ["a" * 60] * 59 + ["a" * 59 + "b"])

    def test_somewhat_beyond_the_bounds(self):
        self.assertEqual(drawn({"a": place(60, 1, 1, 1)}, 62, 2), ["." * 62, "." * 60 + "a."])

    def test_wide_and_high_are_not_mistaken_for_one_another(self):
        places = {"a": place(1, 0, 2, 1)}
        self.assertEqual(drawn(places, 4, 2), [".aa.", "...."])
        self.assertEqual(drawn(places, 2, 4), [".a", "..", "..", ".."])
        self.assertEqual(drawn(places, 60, 1), [".aa" + "." * 57])
        self.assertEqual(drawn(places, 1, 60), ["."] * 60)

    def test_edges_just_on_a_middle(self):
        # The left and the top one are within, the right and the bottom one are not.
        self.assertEqual(drawn({"a": place("1/2", 0, 1, 1)}, 3, 1), ["a.."])
        self.assertEqual(drawn({"a": place("3/2", 0, 1, 1)}, 3, 1), [".a."])
        self.assertEqual(drawn({"a": place(0, 0, "1/2", 1)}, 3, 1), ["..."])
        self.assertEqual(drawn({"a": place(0, 0, "3/2", 1)}, 3, 1), ["a.."])
        self.assertEqual(drawn({"a": place(0, "1/2", 1, 1)}, 1, 3), ["a", ".", "."])
        self.assertEqual(drawn({"a": place(0, "3/2", 1, "3/2")}, 1, 4), [".", "a", "a", "."])
        self.assertEqual(drawn({"a": place(0, 0, 1, "1/2")}, 1, 3), [".", ".", "."])

    def test_edges_just_off_a_middle(self):
        far = Fraction(1, 10 ** 30)
        half = Fraction(1, 2)
        self.assertEqual(drawn({"a": place(half + far, 0, 1, 1)}, 3, 1), [".a."])
        self.assertEqual(drawn({"a": place(half - far, 0, 1, 1)}, 3, 1), ["a.."])
        self.assertEqual(drawn({"a": place(0, 0, half + far, 1)}, 3, 1), ["a.."])
        self.assertEqual(drawn({"a": place(0, 0, half - far, 1)}, 3, 1), ["..."])

    def test_panes_of_no_width_or_height(self):
        for nothing in (place(1, 1, 0, 3), place(1, 1, 3, 0), place("1/2", "1/2", 0, 0), place("1/2", 0, 0, 3)):
            self.assertEqual(drawn({"a": nothing}, 4, 4), ["...."] * 4)

    def test_panes_that_are_too_small_to_be_seen(self):
        self.assertEqual(drawn({"a": place("2/3", 0, "2/3", 9)}, 2, 1), [".."])

    def test_panes_over_one_another(self):
        first = place(0, 0, 3, 1)
        second = place(1, 0, 3, 1)
        for names in (("ab", "b"), ("a", "b"), ("y", "z")):
            for order in (1, -1):
                places = dict([(names[0], first), (names[1], second)][::order])
                self.assertEqual(drawn(places, 5, 1), [names[0][0] + names[1][0] * 3 + "."])
                places = dict([(names[1], first), (names[0], second)][::order])
                self.assertEqual(drawn(places, 5, 1), [names[1][0] * 3 + names[0][0] + "."])

    def test_the_last_by_the_whole_name(self):
        places = {"ab": place(0, 0, 2, 1), "aa": place(1, 0, 2, 1), "b": place(2, 0, 2, 1), "abc": place(3, 0, 2, 1)}
        self.assertEqual(drawn(places, 6, 1), ["aabba."])

    def test_beyond_the_drawing(self):
        self.assertEqual(drawn({"a": place(2, 1, 10 ** 6, 10 ** 6)}, 4, 3), ["....", "..aa", "..aa"])
        self.assertEqual(drawn({"a": place(10 ** 6, 0, 5, 5)}, 4, 1), ["...."])

    def test_square_by_square(self):
        numbers = [Fraction(number, 6) for number in range(0, 30, 5)]
        for left in numbers:
            for width in numbers:
                places = {"a": place(left, width, width, left), "c": place(width, 1, left, 2), "b": place(1, left, 2, width)}
                self.assertEqual(drawn(places, 7, 9), drawn_square_by_square(places, 7, 9))

    def test_places_as_a_frame_tells_them(self):
        frame = Frame(6, 3)
        frame.pane("b")
        frame.pane("a")
        for text in ("left of b is right of a and 1", "width of a is 2", "right of b is right of frame",
                     "height of a is height of frame", "height of b is 1", "bottom of b is bottom of frame"):
            frame.wish(text)
        self.assertEqual(drawn(frame.places(), 6, 3), ["aa....", "aa....", "aa.bbb"])

    def test_nothing_is_changed_and_all_is_new(self):
        places = {"b": place(0, 0, 1, 1), "a": place(0, 0, 1, 1)}
        before = copy.deepcopy(places)
        got = drawn(high=2, wide=1, places=places)
        self.assertEqual((places, list(places)), (before, ["b", "a"]))
        self.assertIs(type(got), list)
        got.clear()
        self.assertEqual(drawn(places, 1, 2), ["b", "."])


if __name__ == "__main__":
    unittest.main()
