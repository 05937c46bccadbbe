import unittest

from springframe.desks import Desk
from springframe.errors import (FrameError, Mixed, Named, NoLine, NoName, NoPane, NoRank, NoSize, NoSuch, NoWish, Stuck,
                                Taken, TooMany)

# Every line that asks for something and changes nothing.
ASKED = ("places", "spans", "wishes", "draw 7 3", "state 0", "state 1", "state 2", "state 3")


def desk_of(*lines, width=100, height=50):
    desk = Desk(width, height)
    for line in lines:
        desk.say(line)
    return desk


def told(desk):
    """All that the desk answers, refusals too."""
    answers = []
    for line in ASKED:
        try:
            answers.append(desk.say(line))
        except FrameError as refusal:
            answers.append((type(refusal).__name__, sorted(vars(refusal).items())))
    return answers


class DeskCase(unittest.TestCase):
    def refused(self, error, desk, *lines):
        """The lines are refused with this very error, and change nothing."""
        for line in lines:
            with self.subTest(line):
                before = told(desk)
                with self.assertRaises(error) as caught:
                    desk.say(line)
                self.assertIs(type(caught.exception), error)
                self.assertEqual(told(desk), before)

    def some_desk(self):
        """A desk with some of everything."""
        return desk_of("pane a", "pane b", "wish width of a is 10", "wish left of b is right of a and gap of g",
                       "wish gap of g is 3 by fair", "wish width of b at least 5 by strong 2", "pull 4 left of a")


class TestMade(DeskCase):
    def test_sizes(self):
        for size in (0, 1, 10 ** 6):
            desk = desk_of("pane a", "wish width of a is width of frame", width=size)
            self.assertEqual(desk.say("places"), f"a 0 0 {size} 0")

    def test_other_sizes_are_refused(self):
        for width, height in ((-1, 5), (5, -1), (10 ** 6 + 1, 5), (5, 10 ** 6 + 1)):
            with self.assertRaises(NoSize):
                Desk(width, height)

    def test_arguments_go_by_their_names(self):
        self.assertEqual(Desk(height=5, width=3).say(line="places"), "none")

    def test_two_desks_are_apart(self):
        one = desk_of("pane a")
        other = desk_of("pane b")
        self.assertEqual((one.say("places"), other.say("places")), ("a 0 0 0 0", "b 0 0 0 0"))


class TestPanes(DeskCase):
    def test_put_in_and_taken_out(self):
        desk = desk_of()
        self.assertEqual(desk.say("pane b"), "ok")
        self.assertEqual(desk.say("pane abcdefgh"), "ok")
        self.assertEqual(desk.say("places"), "abcdefgh 0 0 0 0; b 0 0 0 0")
        self.assertEqual(desk.say("remove abcdefgh"), "ok")
        self.assertEqual(desk.say("places"), "b 0 0 0 0")
        self.assertEqual(desk.say("remove b"), "ok")
        self.assertEqual(desk.say("places"), "none")

    def test_what_the_frame_refuses(self):
        desk = self.some_desk()
        self.refused(NoName, desk, "pane frame", "pane A", "pane abcdefghi", "pane 1", "pane ", "pane a\n", "pane a;")
        self.refused(Taken, desk, "pane a")
        self.refused(NoPane, desk, "remove c", "remove frame", "remove ", "remove g")
        self.refused(Named, desk, "remove a", "remove b")
        desk.say("pane c")
        self.refused(TooMany, desk, "pane d")


class TestWishes(DeskCase):
    def test_numbers_are_counted(self):
        desk = desk_of("pane a")
        self.assertEqual(desk.say("wish width of a is 10"), "wish 0")
        self.assertEqual(desk.say("wish left of a at least 1/2 by faint"), "wish 1")
        self.refused(NoWish, desk, "wish nothing")
        self.assertEqual(desk.say("take 1"), "ok")
        self.assertEqual(desk.say("wish ( left of a ) at most 5"), "wish 2")
        self.assertEqual(desk.say("wishes"), "0 width of a is 10\n2 left of a at most 5")

    def test_more_than_nine(self):
        desk = desk_of(*["wish 0 is 0"] * 11)
        self.assertEqual(desk.say("wish gap of g is 10"), "wish 11")
        self.assertEqual(desk.say("wishes"), "\n".join([f"{count} 0 is 0" for count in range(11)] + ["11 gap of g is 10"]))

    def test_none(self):
        desk = desk_of("pane a", "wish left of a is 0", "take 0")
        self.assertEqual(desk.say("wishes"), "none")

    def test_ranks_and_weights_as_they_are_now(self):
        desk = desk_of("pane a", "wish left of a is 7 by strong 3")
        for line, behind in (("weigh 0 must 9", ""), ("weigh 0 hand 1", " by hand"), ("weigh 0 strong 2", " by strong 2"),
                             ("weigh 0 fair 1000000", " by fair 1000000"), ("weigh 0 faint 1", " by faint")):
            self.assertEqual(desk.say(line), "ok")
            self.assertEqual(desk.say("wishes"), f"0 left of a is 7{behind}")

    def test_what_the_frame_refuses(self):
        desk = self.some_desk()
        self.refused(NoSuch, desk, "take 4", "take 9999999", "weigh 4 none 0", "weigh 9999999 fair 1", "state 4")
        self.refused(NoRank, desk, "weigh 0 none 1", "weigh 0  1", "weigh 0 Must 1", "weigh 0 1 1", "weigh 0 fair 0",
                     "weigh 0 fair 1000001", "weigh 0 must 0", "weigh 0 must 9999999")
        self.refused(NoPane, desk, "wish left of c is 0", "wish gap of c is width of c")
        self.refused(Mixed, desk, "wish left of c is top of c")
        desk.say("take 0")
        self.refused(NoSuch, desk, "take 0", "state 0", "weigh 0 must 1")

    def test_texts_of_any_kind_are_the_frames_to_read(self):
        desk = self.some_desk()
        self.refused(NoWish, desk, "wish ", "wish  ", "wish left of a is 0 ", "wish  left of a is 0", "wish left of a  is 0",
                     "wish pane c", "wish wish left of a is 0", "wish left of a is 2/4", "wish left of a is 0\n",
                     "wish \n", "wish \u00e4", "wish " + "( " * 40, "wish " + "1 and " * 40 + "1 is 0")

    def test_too_many_wishes(self):
        desk = desk_of(*["wish 0 is 0"] * 16)
        self.refused(TooMany, desk, "wish 0 is 0", "pull 1 0")


class TestPull(DeskCase):
    def test_pulled_and_let_go(self):
        desk = desk_of("pane a")
        self.assertEqual(desk.say("pull 7/2 left of a and width of a"), "ok")
        self.assertEqual(desk.say("places"), "a 0 0 7/2 0")
        self.assertEqual(desk.say("pull 5 centre of a less 1"), "ok")
        self.assertEqual(desk.say("places"), "a 0 6 0 0")
        self.assertEqual(desk.say("let go"), "ok")
        self.assertEqual(desk.say("places"), "a 0 0 0 0")
        self.assertEqual(desk.say("let go"), "ok")

    def test_fractions(self):
        desk = desk_of("pane a")
        for word, seen in (("0", "0"), ("999999", "999999"), ("999999/999998", "999999/999998"), ("-3", "0"), ("-1/2", "0")):
            self.assertEqual(desk.say(f"pull {word} left of a"), "ok")
            self.assertEqual(desk.say("places"), f"a {seen} 0 0 0")

    def test_what_is_no_fraction(self):
        desk = self.some_desk()
        for word in ("", "x", "2/4", "3/1", "0/5", "1/0", "-0", "+1", "01", "1/02", "1000000", "1/1000000", "1.5", "1/-2",
                     "1/2/3", "/", "-", "--1", "\u0661"):
            self.refused(NoLine, desk, f"pull {word} left of a", f"pull {word} nothing", f"pull {word} ")

    def test_texts_of_any_kind_are_the_frames_to_read(self):
        desk = self.some_desk()
        self.refused(NoWish, desk, "pull 4 ", "pull 4  ", "pull 4  left of a", "pull 4 left of a ", "pull 4 left  of a",
                     "pull 4 left of a is 4", "pull 4 4 times", "pull 4 \n", "pull 4 " + "1 and " * 40 + "1")
        self.refused(Mixed, desk, "pull 4 left of a and top of a", "pull 4 left of c and top of c")
        self.refused(NoPane, desk, "pull 4 left of c")

    def test_sixty_words_are_read(self):
        desk = desk_of("pane a")
        self.assertEqual(desk.say("pull 40 left of a" + " and 1" * 28), "ok")
        self.assertEqual(desk.say("places"), "a 12 0 0 0")


class TestSize(DeskCase):
    def test_another_size(self):
        desk = desk_of("pane a", "wish right of a is right of frame", "wish height of a is height of frame")
        self.assertEqual(desk.say("size 1000000 0"), "ok")
        self.assertEqual(desk.say("places"), "a 0 0 1000000 0")
        self.assertEqual(desk.say("size 0 1000000"), "ok")
        self.assertEqual(desk.say("places"), "a 0 0 0 1000000")

    def test_refused(self):
        desk = self.some_desk()
        self.refused(NoSize, desk, "size 1000001 5", "size 5 1000001", "size 9999999 9999999")


class TestPlacesAndSpans(DeskCase):
    def test_places(self):
        desk = desk_of("pane b", "pane a", "wish left of b is right of a and 8", "wish width of a is 1/3 times width of frame",
                       "wish top of b is 5", "wish height of a is height of frame less 1/2")
        self.assertEqual(desk.say("places"), "a 0 0 100/3 99/2; b 124/3 5 0 0")

    def test_none(self):
        self.assertEqual(desk_of().say("places"), "none")
        self.assertEqual(desk_of().say("spans"), "none")
        self.assertEqual(desk_of("pane a").say("spans"), "none")

    def test_spans(self):
        desk = desk_of("wish gap of b is 1/2", "wish drop of a is 7", "wish gap of aa at least 3", "pull 2 drop of z",
                       "wish gap of a is 0")
        self.assertEqual(desk.say("spans"), "drop a 7; drop z 2; gap a 0; gap aa 3; gap b 1/2")
        self.assertEqual(desk.say("places"), "none")
        desk.say("let go")
        self.assertEqual(desk.say("spans"), "drop a 7; gap a 0; gap aa 3; gap b 1/2")

    def test_numbers_of_many_figures(self):
        desk = desk_of("pane a", "wish 999983/999979 times width of a is 999961/999959 times gap of g",
                       "wish 999953/999931 times gap of g is 999917/999907")
        gap = (999917 * 999931, 999907 * 999953)
        width = (999961 * 999979 * gap[0], 999959 * 999983 * gap[1])
        self.assertEqual(desk.say("spans"), f"gap g {gap[0]}/{gap[1]}")
        self.assertEqual(desk.say("places"), f"a 0 0 {width[0]}/{width[1]} 0")


class TestState(DeskCase):
    def test_kept_and_missed_idle_and_not(self):
        desk = desk_of("pane a", "wish width of a is 10", "wish width of a is 25/2 by fair 3", "wish width of a at least 10",
                       "wish left of a at most 5 by faint", "wish left of a is 4 by strong")
        self.assertEqual(desk.say("state 0"), "kept")
        self.assertEqual(desk.say("state 1"), "missed 5/2 idle")
        self.assertEqual(desk.say("state 2"), "kept idle")
        self.assertEqual(desk.say("state 3"), "kept idle")
        self.assertEqual(desk.say("state 4"), "kept")
        desk.say("weigh 0 fair 9")
        desk.say("take 2")
        self.assertEqual(desk.say("state 0"), "kept")
        desk.say("weigh 0 fair 3")
        desk.say("weigh 1 fair 2")
        desk.say("wish width of a is 13 by fair 3")
        self.assertEqual(desk.say("state 0"), "missed 5/2")

    def test_whole_numbers_missed(self):
        desk = desk_of("pane a", "wish width of a is 10", "wish width of a is 3 by hand")
        self.assertEqual(desk.say("state 1"), "missed 7 idle")


class TestDraw(DeskCase):
    def test_drawn(self):
        desk = desk_of("pane a", "pane b", "wish width of a is 2", "wish left of b is right of a and 1", "wish width of b is 2",
                       "wish height of a is 2", "wish height of b is 1", "wish top of b is 1")
        self.assertEqual(desk.say("draw 6 3"), "aa....\naa.bb.\n......")
        self.assertEqual(desk.say("draw 1 1"), "a")
        self.assertEqual(desk.say("draw 3 1"), "aa.")
        self.assertEqual(desk.say("draw 1 3"), "a\na\n.")
        self.assertEqual(desk.say("draw 60 60"), "\n".join(["aa" + "." * 58, "aa.bb" + "." * 55] + ["." * 60] * 58))

    def test_no_panes(self):
        self.assertEqual(desk_of().say("draw 2 2"), "..\n..")

    def test_sizes_out_of_range(self):
        desk = self.some_desk()
        self.refused(NoSize, desk, "draw 0 5", "draw 5 0", "draw 61 5", "draw 5 61", "draw 0 0", "draw 9999999 1")

    def test_ahead_of_a_clash(self):
        desk = desk_of("wish 0 is 1")
        self.refused(NoSize, desk, "draw 0 5", "draw 5 61")
        self.refused(NoLine, desk, "draw 0 x", "draw 00 5", "draw 61 61 61")
        self.refused(Stuck, desk, "draw 1 60")


class TestStuck(DeskCase):
    def test_a_clash_is_told_by_what_asks_for_places(self):
        desk = desk_of("pane a", "wish width of a is 1", "wish top of a is 3", "wish width of a is 2", "wish top of a is 4 by hand")
        for line in ("places", "spans", "state 0", "state 1", "draw 1 1"):
            with self.assertRaises(Stuck) as caught:
                desk.say(line)
            self.assertEqual((caught.exception.direction, caught.exception.numbers), ("across", [0, 2]))
        self.refused(NoSuch, desk, "state 9")
        self.assertEqual(desk.say("wishes").count("\n"), 3)
        self.assertEqual(desk.say("take 0"), "ok")
        self.assertEqual(desk.say("places"), "a 0 3 2 0")

    def test_all_else_is_done_even_so(self):
        desk = desk_of("wish 0 is 1")
        for line in ("pane a", "size 5 5", "pull 1 left of a", "let go", "weigh 0 fair 1"):
            self.assertEqual(desk.say(line), "ok")
        self.assertEqual(desk.say("places"), "a 0 0 0 0")


class TestNoLine(DeskCase):
    # Each line as it may be said, but wish and pull, which take any words behind.
    LINES = ("pane c", "remove c", "take 0", "weigh 0 fair 2", "size 5 6", "let go", "places", "spans", "state 0", "draw 2 3",
             "wishes")

    def test_a_word_more_and_a_word_fewer(self):
        desk = self.some_desk()
        for line in self.LINES:
            words = line.split(" ")
            self.refused(NoLine, desk, line + " x", line + " 1", f"x {line}", f"{words[0]} 1 {line}", " ".join(words[:-1]))
            self.refused(NoLine, desk, *[" ".join(words[:count]) for count in range(1, len(words))])
        self.refused(NoLine, desk, "wish", "pull", "pull 4", "pull x", "pull ")

    def test_blanks_count_as_words(self):
        desk = self.some_desk()
        for line in self.LINES:
            self.refused(NoLine, desk, line + " ", " " + line, line + "  ", f" {line} ")
            if " " in line:
                self.refused(NoLine, desk, line.replace(" ", "  ", 1))
        self.refused(NoLine, desk, "", " ", "  ", " wish left of a is 0", " pull 4 left of a", "pull  4 left of a")

    def test_words_that_begin_no_line(self):
        desk = self.some_desk()
        self.refused(NoLine, desk, "panes", "Pane c", "PLACES", "place", "paneac", "wishleft of a is 0", "frame", "ok", "none",
                     "let_go", "letgo", "go", "help", "places\n", "places;", "\nplaces", "wishes\t", "wish\tleft of a is 0",
                     "resize 5 6", "say places", "0", "\u00e4")

    def test_let_other_things(self):
        desk = self.some_desk()
        self.refused(NoLine, desk, "let", "let ", "let me", "let Go", "let go go", "let go ")

    def test_numbers(self):
        desk = self.some_desk()
        for wrong in ("", "00", "01", "0000001", "-1", "+1", "-0", "12345678", "1/2", "1.0", "x", "1x", "\u0661", "\u00b2", "1_0",
                      "1\n", "0x1"):
            self.refused(NoLine, desk, f"take {wrong}", f"state {wrong}", f"weigh {wrong} fair 1", f"weigh 0 fair {wrong}",
                         f"weigh {wrong} none 1", f"weigh 0 none {wrong}", f"weigh 99 fair {wrong}", f"size {wrong} 5",
                         f"size 5 {wrong}", f"size {wrong} 1000001", f"size 1000001 {wrong}", f"draw {wrong} 5", f"draw 5 {wrong}",
                         f"draw {wrong} 0", f"draw 61 {wrong}")

    def test_names_and_ranks_are_the_frames_to_read(self):
        desk = self.some_desk()
        self.refused(NoName, desk, "pane 0", "pane 01")
        self.refused(NoPane, desk, "remove 0")
        self.refused(NoRank, desk, "weigh 0 01 1")

    def test_no_line_is_refused_ahead_of_a_clash(self):
        desk = desk_of("wish 0 is 1")
        self.refused(NoLine, desk, "places ", "spans x", "state", "state x", "draw 1", "wishes 1")


class TestALongTalk(DeskCase):
    def test_what_was_said_counts_in_its_order(self):
        desk = Desk(100, 40)
        talk = (("pane menu", "ok"), ("pane text", "ok"), ("wish left of text is right of menu and gap of g", "wish 0"),
                ("wish gap of g is 8 by fair", "wish 1"), ("wish right of text is right of frame", "wish 2"),
                ("wish width of menu is 1/4 times width of frame by strong", "wish 3"),
                ("places", "menu 0 0 25 0; text 33 0 67 0"), ("spans", "gap g 8"), ("pull 40 left of text", "ok"),
                ("places", "menu 7 0 25 0; text 40 0 60 0"), ("state 3", "kept"), ("let go", "ok"), ("size 10 40", "ok"),
                ("places", "menu 0 0 5/2 0; text 10 0 0 0"), ("spans", "gap g 15/2"), ("state 1", "missed 1/2"),
                ("weigh 3 faint 2", "ok"), ("places", "menu 0 0 2 0; text 10 0 0 0"), ("state 3", "missed 1/2"),
                ("take 1", "ok"), ("places", "menu 0 0 5/2 0; text 5/2 0 15/2 0"),
                ("wishes", "0 left of text is right of menu and gap of g\n2 right of text is right of frame\n"
                           "3 width of menu is 1/4 times width of frame by faint 2"), ("spans", "gap g 0"))
        for line, answer in talk:
            self.assertEqual((line, desk.say(line)), (line, answer))


if __name__ == "__main__":
    unittest.main()
