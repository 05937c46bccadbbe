import unittest

from springframe import words
from springframe.words import Edge, Minus, Number, Plus, Term, Times

ONE = (1, 1)
HALF = (1, 2)
NOUGHT = (0, 1)
LEFT = Edge("left", "a")
TOP = Edge("top", "b")
FOUR = Number((4, 1))

OF_A_PANE = (
    ("left", {"left a": ONE}),
    ("width", {"width a": ONE}),
    ("right", {"left a": ONE, "width a": ONE}),
    ("middle", {"left a": ONE, "width a": HALF}),
    ("gap", {"gap a": ONE}),
    ("top", {"top a": ONE}),
    ("height", {"height a": ONE}),
    ("bottom", {"top a": ONE, "height a": ONE}),
    ("centre", {"top a": ONE, "height a": HALF}),
    ("drop", {"drop a": ONE}),
)
OF_THE_FRAME = (
    ("left", {}),
    ("width", {"width frame": ONE}),
    ("right", {"width frame": ONE}),
    ("middle", {"width frame": HALF}),
    ("top", {}),
    ("height", {"height frame": ONE}),
    ("bottom", {"height frame": ONE}),
    ("centre", {"height frame": HALF}),
)


class TestClasses(unittest.TestCase):
    def test_the_five_kinds_stand_under_term(self):
        for name in ("Number", "Edge", "Times", "Plus", "Minus"):
            self.assertEqual(getattr(words, name).__bases__, (Term,))
            self.assertEqual(getattr(words, name).__subclasses__(), [])

    def test_fields(self):
        self.assertEqual(Number(number=HALF).number, HALF)
        edge = Edge(word="left", name="a")
        self.assertEqual((edge.word, edge.name), ("left", "a"))
        times = Times(number=HALF, inner=LEFT)
        self.assertEqual(times.number, HALF)
        self.assertIs(times.inner, LEFT)
        for kind in (Plus, Minus):
            pair = kind(one=LEFT, other=FOUR)
            self.assertIs(pair.one, LEFT)
            self.assertIs(pair.other, FOUR)


class TestWorth(unittest.TestCase):
    def test_number(self):
        self.assertEqual(Number((-3, 4)).worth(), ({}, (-3, 4)))
        self.assertEqual(Number(NOUGHT).worth(), ({}, NOUGHT))

    def test_each_word_of_a_pane(self):
        for word, parts in OF_A_PANE:
            with self.subTest(word):
                self.assertEqual(Edge(word, "a").worth(), (parts, NOUGHT))

    def test_each_word_of_the_frame(self):
        for word, parts in OF_THE_FRAME:
            with self.subTest(word):
                self.assertEqual(Edge(word, "frame").worth(), (parts, NOUGHT))

    def test_names_that_begin_as_the_frame_does_are_no_frame(self):
        self.assertEqual(Edge("left", "framed").worth(), ({"left framed": ONE}, NOUGHT))
        self.assertEqual(Edge("right", "f").worth(), ({"left f": ONE, "width f": ONE}, NOUGHT))

    def test_times(self):
        self.assertEqual(Times(HALF, Plus(LEFT, FOUR)).worth(), ({"left a": HALF}, (2, 1)))
        self.assertEqual(Times((-2, 1), Edge("middle", "a")).worth(),
                         ({"left a": (-2, 1), "width a": (-1, 1)}, NOUGHT))

    def test_taken_nought_times_nothing_is_left(self):
        self.assertEqual(Times(NOUGHT, Plus(LEFT, FOUR)).worth(), ({}, NOUGHT))

    def test_plus_and_minus(self):
        right = Edge("right", "a")
        self.assertEqual(Plus(right, FOUR).worth(), ({"left a": ONE, "width a": ONE}, (4, 1)))
        self.assertEqual(Plus(right, LEFT).worth(), ({"left a": (2, 1), "width a": ONE}, NOUGHT))
        self.assertEqual(Minus(right, LEFT).worth(), ({"width a": ONE}, NOUGHT))
        self.assertEqual(Minus(FOUR, LEFT).worth(), ({"left a": (-1, 1)}, (4, 1)))

    def test_terms_that_come_to_nothing_together(self):
        self.assertEqual(Minus(LEFT, LEFT).worth(), ({}, NOUGHT))
        self.assertEqual(Plus(LEFT, Times((-1, 1), LEFT)).worth(), ({}, NOUGHT))

    def test_it_is_a_new_one_each_time(self):
        for term in (FOUR, LEFT, Times(ONE, LEFT), Plus(LEFT, FOUR), Minus(LEFT, FOUR)):
            before = term.worth()
            again = term.worth()
            again[0].clear()
            again[0]["spoilt"] = ONE
            self.assertEqual(term.worth(), before)


class TestWays(unittest.TestCase):
    def test_each_word(self):
        for place, pair in enumerate(OF_A_PANE):
            way = "across" if place < 5 else "down"
            self.assertEqual(Edge(pair[0], "a").ways(), [way])

    def test_words_of_the_frame_count(self):
        for word, parts in OF_THE_FRAME:
            way = "across" if word in ("left", "width", "right", "middle") else "down"
            self.assertEqual(Edge(word, "frame").ways(), [way])

    def test_no_word_at_all(self):
        self.assertEqual(FOUR.ways(), [])
        self.assertEqual(Times(HALF, Plus(FOUR, FOUR)).ways(), [])

    def test_each_at_most_once(self):
        self.assertEqual(Plus(LEFT, Edge("gap", "g")).ways(), ["across"])
        self.assertEqual(Minus(TOP, Plus(TOP, TOP)).ways(), ["down"])

    def test_both_sorted(self):
        self.assertEqual(Plus(TOP, LEFT).ways(), ["across", "down"])
        self.assertEqual(Minus(LEFT, Times(HALF, TOP)).ways(), ["across", "down"])

    def test_words_that_come_to_nothing_count(self):
        self.assertEqual(Times(NOUGHT, TOP).ways(), ["down"])
        self.assertEqual(Minus(LEFT, LEFT).ways(), ["across"])

    def test_it_is_a_new_one_each_time(self):
        term = Plus(TOP, LEFT)
        term.ways().clear()
        self.assertEqual(term.ways(), ["across", "down"])


class TestText(unittest.TestCase):
    def test_numbers_and_edges(self):
        self.assertEqual(FOUR.text(), "4")
        self.assertEqual(Number((-3, 2)).text(), "-3/2")
        self.assertEqual(Number((10 ** 9, 1)).text(), "1000000000")
        self.assertEqual(LEFT.text(), "left of a")
        self.assertEqual(Edge("centre", "frame").text(), "centre of frame")

    def test_times(self):
        self.assertEqual(Times(HALF, LEFT).text(), "1/2 times left of a")
        self.assertEqual(Times((2, 1), Times((-3, 1), FOUR)).text(), "2 times -3 times 4")

    def test_plus_and_minus_without_brackets(self):
        self.assertEqual(Plus(LEFT, FOUR).text(), "left of a and 4")
        self.assertEqual(Minus(LEFT, FOUR).text(), "left of a less 4")
        self.assertEqual(Plus(Minus(LEFT, TOP), FOUR).text(), "left of a less top of b and 4")
        self.assertEqual(Minus(Plus(LEFT, TOP), FOUR).text(), "left of a and top of b less 4")
        self.assertEqual(Plus(LEFT, Times((2, 1), FOUR)).text(), "left of a and 2 times 4")
        self.assertEqual(Plus(Times((2, 1), LEFT), FOUR).text(), "2 times left of a and 4")

    def test_brackets_where_they_are_needed(self):
        plus = Plus(LEFT, TOP)
        minus = Minus(LEFT, TOP)
        for kind, word in ((Plus, "and"), (Minus, "less")):
            self.assertEqual(kind(FOUR, plus).text(), f"4 {word} ( left of a and top of b )")
            self.assertEqual(kind(FOUR, minus).text(), f"4 {word} ( left of a less top of b )")
        self.assertEqual(Times((2, 1), plus).text(), "2 times ( left of a and top of b )")
        self.assertEqual(Times((2, 1), minus).text(), "2 times ( left of a less top of b )")
        self.assertEqual(Times((2, 1), Times((3, 1), minus)).text(), "2 times 3 times ( left of a less top of b )")
        self.assertEqual(Plus(FOUR, Plus(FOUR, Minus(FOUR, LEFT))).text(), "4 and ( 4 and ( 4 less left of a ) )")

    def test_sixty_parts_one_in_the_other(self):
        term = FOUR
        for count in range(59):
            term = Times((1, 1), term)
        self.assertEqual(term.text(), "1 times " * 59 + "4")
        self.assertEqual(term.worth(), ({}, (4, 1)))
        self.assertEqual(term.ways(), [])


class TestNothingIsChanged(unittest.TestCase):
    def test_terms_are_kept_as_they_are(self):
        inner = Plus(LEFT, FOUR)
        term = Minus(Times(HALF, inner), inner)
        term.worth()
        term.text()
        term.ways()
        self.assertIs(term.one.inner, inner)
        self.assertIs(term.other, inner)
        self.assertEqual(vars(inner), {"one": LEFT, "other": FOUR})
        self.assertEqual(vars(LEFT), {"word": "left", "name": "a"})
        self.assertEqual(vars(FOUR), {"number": (4, 1)})


if __name__ == "__main__":
    unittest.main()
