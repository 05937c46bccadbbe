import copy
import unittest

from springframe.errors import Mixed, NoWish
from springframe.forms import alike, alike_high, column_of, filled, grid, row_of
from springframe.frames import Frame
from springframe.reading import read_wish

NOUGHT = (0, 1)
EIGHT = (8, 1)
HALF = (1, 2)
NINE = ["a", "bb", "ccc", "d", "e", "f", "g", "hhhhhhhh", "i"]


class FormCase(unittest.TestCase):
    def check_musts(self, texts):
        """The texts are those of wishes, and all of them musts."""
        self.assertIs(type(texts), list)
        for text in texts:
            wish = read_wish(text)
            self.assertEqual(wish.text(), text)
            self.assertEqual((wish.rank, wish.weight), (0, 1))

    def refused(self, error, lines, names):
        handed = (lines, names)
        before = copy.deepcopy(handed)
        with self.assertRaises(error) as caught:
            filled(lines, names)
        self.assertIs(type(caught.exception), error)
        self.assertEqual(handed, before)


class TestFilled(FormCase):
    def test_an_ordinary_form(self):
        lines = ["left of 2 is right of 1 and 8", "width of 1 is width of 2 by strong 2", "right of 2 at most right of frame"]
        self.assertEqual(filled(lines, ["menu", "text"]),
                         ["left of text is right of menu and 8", "width of menu is width of text by strong 2",
                          "right of text at most right of frame"])

    def test_each_hole_from_one_to_nine(self):
        for place, name in enumerate(NINE, start=1):
            self.assertEqual(filled([f"top of {place} at least {place}"], NINE), [f"top of {name} at least {place}"])

    def test_no_lines(self):
        self.assertEqual(filled([], ["a"]), [])

    def test_no_holes(self):
        self.assertEqual(filled(["left of x is 0"], ["a"]), ["left of x is 0"])

    def test_a_line_that_comes_twice(self):
        self.assertEqual(filled(["left of 1 is 0"] * 2, ["a"]), ["left of a is 0"] * 2)

    def test_holes_stand_for_names_alone(self):
        # 1 is a number, a factor and a weight elsewhere, whatever names there are.
        self.assertEqual(filled(["1 times left of 1 and 1 less 2 is 1/2 by fair 3"], ["a", "b", "c"]),
                         ["1 times left of a and 1 less 2 is 1/2 by fair 3"])

    def test_each_word_has_holes(self):
        for word in ("left", "width", "right", "middle", "gap", "top", "height", "bottom", "centre", "drop"):
            self.assertEqual(filled([f"{word} of 2 is 3"], ["a", "b"]), [f"{word} of b is 3"])

    def test_one_name_for_two_holes_and_one_hole_twice(self):
        self.assertEqual(filled(["left of 1 is left of 2 and left of 1"], ["a", "a"]), ["left of a is left of a and left of a"])

    def test_names_that_are_words(self):
        self.assertEqual(filled(["left of 1 is right of 2 and gap of 3"], ["of", "and", "is"]),
                         ["left of of is right of and and gap of is"])
        self.assertEqual(filled(["left of of is width of 1"], ["by"]), ["left of of is width of by"])

    def test_a_name_makes_no_other_word(self):
        # The figure stands behind a name here, not in the place of one.
        self.refused(NoWish, ["left of of 1 3"], ["is"])
        self.refused(NoWish, ["left 1 a is 3"], ["of"])
        self.refused(NoWish, ["1 of a is 3"], ["left"])
        self.refused(NoWish, ["left of a 1 3"], ["is"])
        self.refused(NoWish, ["left of a is 3 by 1"], ["fair"])

    def test_no_more_brackets_than_needed(self):
        self.assertEqual(filled(["( ( left of 1 ) and ( 2 times ( right of 2 ) ) ) is ( 3 less ( 4 and 5 ) )"], ["a", "b"]),
                         ["left of a and 2 times right of b is 3 less ( 4 and 5 )"])

    def test_frame_as_a_name(self):
        self.assertEqual(filled(["right of 1 is width of frame"], ["frame"]), ["right of frame is width of frame"])
        self.refused(NoWish, ["gap of 1 is 0"], ["frame"])
        self.refused(NoWish, ["drop of 1 is 0"], ["frame"])

    def test_a_hole_without_a_name(self):
        for names in (["a"], NINE[:8]):
            self.refused(NoWish, [f"left of {len(names) + 1} is 0"], names)
            self.refused(NoWish, ["left of 9 is 0"], names)
            self.assertEqual(filled([f"left of {len(names)} is 0"], names), [f"left of {names[-1]} is 0"])

    def test_no_name_and_more_than_nine(self):
        self.refused(NoWish, ["left of 1 is 0"], [])
        self.assertEqual(filled(["left of x is 0"], []), ["left of x is 0"])
        self.assertEqual(filled(["left of 9 is right of 1"], NINE + ["j"]), ["left of i is right of a"])
        self.refused(NoWish, ["left of 10 is 0"], NINE + ["j"])

    def test_what_looks_like_no_hole(self):
        for word in ("0", "10", "01", "11", "99", "-1", "+1", "1a", "a1", "1/2", "2/1", "A", "", "$1", "{1}", "1.", "\u0661",
                     "\u00b2", "\uff11"):
            self.refused(NoWish, [f"left of {word} is 0"], NINE)

    def test_lines_that_are_no_wish(self):
        for line in ("", "left of 1", "left of 1 is", "left of 1  is 0", " left of 1 is 0", "left of 1 is 0 ", "is 0",
                     "left of 1 is 2/4", "left of 1 is 0 by must", "left of 1 is 0 by fair 1", "left of 1 2 is 0",
                     "left of 1 is 0 and", "( left of 1 is 0", "leftof 1 is 0"):
            self.refused(NoWish, [line], NINE)

    def test_mixed_lines(self):
        self.refused(Mixed, ["left of 1 is top of 2"], ["a", "b"])
        self.refused(Mixed, ["gap of 1 is drop of 1 by fair"], ["a"])
        # No wish counts ahead of mixed words, in the same line.
        self.refused(NoWish, ["left of 1 is top of 3"], ["a", "b"])
        self.refused(NoWish, ["left of 1 is top of 2 by"], ["a", "b"])

    def test_of_two_bad_lines_the_first_is_refused(self):
        mixed = "left of 1 is top of 1"
        bad = "left of 2 is 0"
        good = "left of 1 is 0"
        self.refused(Mixed, [mixed, bad], ["a"])
        self.refused(NoWish, [bad, mixed], ["a"])
        self.refused(Mixed, [good, mixed, good, bad], ["a"])
        self.refused(NoWish, [good, good, bad, mixed], ["a"])

    def test_sixty_words(self):
        line = "left of 1 at least 1" + " and 1" * 27
        self.assertEqual(len(line.split(" ")), 60)
        self.assertEqual(filled([line], ["a"]), [line.replace("of 1", "of a")])
        line = "left of 1 is 1" + " and 1" * 27 + " by fair"
        self.assertEqual(len(line.split(" ")), 61)
        self.refused(NoWish, [line], ["a"])

    def test_nothing_is_changed_and_all_is_new(self):
        lines = ["left of 1 is 0"]
        names = ["a"]
        got = filled(lines, names)
        got.append("x")
        self.assertEqual((lines, names), (["left of 1 is 0"], ["a"]))
        self.assertEqual(filled(names=names, lines=lines), ["left of a is 0"])


class TestRows(FormCase):
    def test_none_and_one(self):
        for names in ([], ["a"]):
            for space in (NOUGHT, EIGHT, HALF):
                self.assertEqual(row_of(names, space), [])
                self.assertEqual(column_of(names, space), [])

    def test_several(self):
        for space, behind in ((NOUGHT, ""), (EIGHT, " and 8"), (HALF, " and 1/2"), ((999999, 999998), " and 999999/999998")):
            across = row_of(["c", "a", "b"], space)
            self.assertEqual(across, [f"left of a is right of c{behind}", f"left of b is right of a{behind}"])
            down = column_of(["c", "a", "b"], space)
            self.assertEqual(down, [f"top of a is bottom of c{behind}", f"top of b is bottom of a{behind}"])
            self.check_musts(across + down)

    def test_many(self):
        self.assertEqual(len(row_of(NINE * 3, EIGHT)), 26)
        self.assertEqual(column_of(NINE, NOUGHT)[-1], "top of i is bottom of hhhhhhhh")

    def test_the_frame_lays_them_out_as_those_written_by_hand(self):
        made = Frame(100, 100)
        by_hand = Frame(100, 100)
        for frame in (made, by_hand):
            for name in ("a", "b", "c"):
                frame.pane(name)
            for text in ("width of a is 10", "right of c is right of frame", "height of b is 20", "bottom of c is bottom of frame"):
                frame.wish(text)
        for text in row_of(["a", "b", "c"], (5, 2)) + column_of(["a", "b", "c"], NOUGHT) + alike(["a", "b"]):
            made.wish(text)
        for text in ("left of b is right of a and 5/2", "left of c is right of b and 5/2", "top of b is bottom of a",
                     "top of c is bottom of b", "width of b is width of a"):
            by_hand.wish(text)
        self.assertEqual(made.wishes(), by_hand.wishes())
        self.assertEqual(made.places(), by_hand.places())
        self.assertEqual(made.places()["b"], ((25, 2), (80, 1), (10, 1), (20, 1)))


class TestGrid(FormCase):
    def test_none_and_one(self):
        for many in (1, 2, 9):
            self.assertEqual(grid([], many, EIGHT), [])
            self.assertEqual(grid(["a"], many, EIGHT), [])

    def test_two_a_line(self):
        got = grid(["a", "b", "c", "d", "e"], 2, EIGHT)
        self.assertEqual(got, ["left of b is right of a and 8", "top of b is top of a",
                               "top of c is bottom of a and 8", "left of c is left of a",
                               "left of d is right of c and 8", "top of d is top of c",
                               "top of d is bottom of b and 8", "left of d is left of b",
                               "top of e is bottom of c and 8", "left of e is left of c"])
        self.check_musts(got)

    def test_one_a_line(self):
        self.assertEqual(grid(["a", "b", "c"], 1, HALF),
                         ["top of b is bottom of a and 1/2", "left of b is left of a",
                          "top of c is bottom of b and 1/2", "left of c is left of b"])

    def test_as_many_a_line_as_there_are_or_more(self):
        for many in (3, 4, 100):
            self.assertEqual(grid(["a", "b", "c"], many, NOUGHT),
                             ["left of b is right of a", "top of b is top of a",
                              "left of c is right of b", "top of c is top of b"])

    def test_without_a_space(self):
        self.assertEqual(grid(["a", "b", "c", "d"], 2, NOUGHT)[4:],
                         ["left of d is right of c", "top of d is top of c", "top of d is bottom of b", "left of d is left of b"])

    def test_a_grid_in_a_frame(self):
        frame = Frame(100, 100)
        for name in ("a", "b", "c", "d"):
            frame.pane(name)
        names = ["a", "b", "c", "d"]
        for text in grid(names, 2, (3, 1)) + alike(names) + alike_high(names) + ["width of a is 10", "height of a is 5"]:
            frame.wish(text)
        got = {name: tuple(told[0] for told in place) for name, place in frame.places().items()}
        self.assertEqual(got, {"a": (0, 0, 10, 5), "b": (13, 0, 10, 5), "c": (0, 8, 10, 5), "d": (13, 8, 10, 5)})


class TestAlike(FormCase):
    def test_none_and_one(self):
        for names in ([], ["a"]):
            self.assertEqual(alike(names), [])
            self.assertEqual(alike_high(names), [])

    def test_several(self):
        across = alike(["c", "a", "b"])
        self.assertEqual(across, ["width of a is width of c", "width of b is width of c"])
        down = alike_high(["c", "a", "b"])
        self.assertEqual(down, ["height of a is height of c", "height of b is height of c"])
        self.check_musts(across + down)


class TestNothingIsShared(FormCase):
    def test_names_are_not_changed_and_lists_are_new(self):
        names = ["a", "b", "c"]
        calls = (lambda: row_of(space=EIGHT, names=names), lambda: column_of(space=EIGHT, names=names),
                 lambda: grid(space=EIGHT, many=2, names=names), lambda: alike(names=names),
                 lambda: alike_high(names=names))
        for call in calls:
            first = call()
            again = list(first)
            first.clear()
            self.assertEqual(names, ["a", "b", "c"])
            self.assertEqual(call(), again)


if __name__ == "__main__":
    unittest.main()
