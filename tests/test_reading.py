import random
import unittest

from springframe.errors import Mixed, NoWish
from springframe.reading import read_sum, read_wish
from springframe.wishes import AtLeast, AtMost, Just
from springframe.words import Edge, Minus, Number, Plus, Times

WORDS = ("left", "width", "right", "middle", "gap", "top", "height", "bottom", "centre", "drop")
NAMES_LIKE_WORDS = WORDS + ("and", "less", "of", "times", "is", "at", "least", "most", "by", "hand", "strong", "fair",
                            "faint", "must")
A = Edge("left", "a")
B = Edge("left", "b")
C = Edge("left", "c")
TWO = (2, 1)

SUMS = (
    ("4", Number((4, 1))),
    ("-3/2", Number((-3, 2))),
    ("left of a", A),
    ("2 times left of a", Times(TWO, A)),
    ("left of a less left of b and left of c", Plus(Minus(A, B), C)),
    ("left of a less ( left of b and left of c )", Minus(A, Plus(B, C))),
    ("left of a and left of b less left of c", Minus(Plus(A, B), C)),
    ("2 times left of a and left of b", Plus(Times(TWO, A), B)),
    ("2 times ( left of a and left of b )", Times(TWO, Plus(A, B))),
    ("2 times -3 times left of a", Times(TWO, Times((-3, 1), A))),
    ("2 times 3 times 4", Times(TWO, Times((3, 1), Number((4, 1))))),
    ("0 times left of a", Times((0, 1), A)),
    ("left of a and 2 times left of b", Plus(A, Times(TWO, B))),
    ("left of a less left of a", Minus(A, A)),
)
MORE_BRACKETS = (
    ("( left of a )", A),
    ("( ( ( 4 ) ) )", Number((4, 1))),
    ("( left of a less left of b ) and left of c", Plus(Minus(A, B), C)),
    ("2 times ( left of a )", Times(TWO, A)),
    ("( 2 times left of a ) and left of b", Plus(Times(TWO, A), B)),
    ("( 2 times ( ( left of a ) and left of b ) )", Times(TWO, Plus(A, B))),
)
NO_SUMS = (
    "", " ", "a", "and", "left", "left of", "of a", "left a", "left of A", "left of a1", "left of abcdefghi",
    "left of \u00e4", "left of frame and", "and left of a", "left of a and", "left of a less", "left of a and and 4",
    "left of a left of b", "left of a 4", "4 4", "4 left of a", "times left of a", "2 times", "2 times times 4",
    "left of a times 2", "( left of a", "left of a )", "( left of a ) )", "( ( left of a )", "( )", "()", "(left of a)",
    "( left of a and )", "left of ( a )", "( 2 times ) left of a", "( 2 ) times left of a", "gap of frame",
    "drop of frame", "2 times gap of frame", "left  of a", " left of a", "left of a ", "left of a  and 4",
    "left\tof\ta", "left of a\n", "Left of a", "lefts of a", "left Of a", "1000000", "left of a and 01", "-0", "2/4",
    "1/0", "3/1", "+1", "- 1", "left of a is 4", "left of a minus 4", "left of a plus 4", "2 * left of a",
)


def shape(thing):
    """A term or wish as plain tuples, kind by kind and field by field."""
    if isinstance(thing, (Number, Edge, Times, Plus, Minus, Just, AtLeast, AtMost)):
        return (type(thing).__name__, {name: shape(value) for name, value in vars(thing).items()})
    return (type(thing).__name__, thing)


def long_sum(words):
    """The text of a sum of so many words."""
    return "4" + " and 4" * ((words - 1) // 2)


class ReadingCase(unittest.TestCase):
    def assert_same(self, one, other):
        self.assertEqual(shape(one), shape(other))

    def assert_no_wish(self, read, texts):
        for text in texts:
            with self.subTest(text):
                with self.assertRaises(NoWish):
                    read(text)


class TestReadSum(ReadingCase):
    def test_sums(self):
        for text, term in SUMS + MORE_BRACKETS:
            with self.subTest(text):
                self.assert_same(read_sum(text), term)

    def test_each_word(self):
        for word in WORDS:
            self.assert_same(read_sum(f"{word} of a"), Edge(word, "a"))

    def test_each_word_of_the_frame_but_gap_and_drop(self):
        for word in WORDS:
            if word in ("gap", "drop"):
                self.assert_no_wish(read_sum, [f"{word} of frame"])
            else:
                self.assert_same(read_sum(f"{word} of frame"), Edge(word, "frame"))

    def test_names_of_one_to_eight_letters(self):
        for name in ("z", "abcdefgh", "framed", "fram"):
            self.assert_same(read_sum(f"gap of {name}"), Edge("gap", name))

    def test_names_that_are_words_of_the_document(self):
        for name in NAMES_LIKE_WORDS:
            with self.subTest(name):
                self.assert_same(read_sum(f"left of {name}"), Edge("left", name))
                self.assert_same(read_sum(f"left of {name} and gap of {name} less 2 times left of {name}"),
                                 Minus(Plus(Edge("left", name), Edge("gap", name)), Times(TWO, Edge("left", name))))

    def test_words_of_both_ways_are_no_matter_to_a_sum(self):
        self.assert_same(read_sum("left of a and top of a"), Plus(A, Edge("top", "a")))

    def test_what_is_no_sum_is_refused(self):
        self.assert_no_wish(read_sum, NO_SUMS)

    def test_at_most_sixty_words(self):
        # Every sum has an odd count of words.
        for text, count in ((long_sum(59), 59), ("1 times " * 28 + "left of a", 59), ("( " * 29 + "4" + " )" * 29, 59)):
            self.assertEqual(len(text.split(" ")), count)
            self.assertIsNotNone(read_sum(text))
            self.assert_no_wish(read_sum, [text + " and 4", f"1 times {text}", f"( {text} )", f"{text} and"])

    def test_deep_brackets_that_do_not_close(self):
        self.assert_no_wish(read_sum, ["( " * 59 + "4", " ".join("(" * 60), " ".join("(" * 61), "( " * 5000 + "4"])


class TestReadWish(ReadingCase):
    def test_the_example_of_the_document(self):
        self.assert_same(read_wish("right of a and 4 at most left of b by strong 3"),
                         AtMost(Plus(Edge("right", "a"), Number((4, 1))), B, 2, 3))

    def test_each_kind(self):
        for verb, kind in (("is", Just), ("at least", AtLeast), ("at most", AtMost)):
            self.assert_same(read_wish(f"left of a {verb} left of b"), kind(A, B, 0, 1))

    def test_sums_on_both_sides(self):
        for near, one in SUMS + MORE_BRACKETS:
            for far, other in SUMS + MORE_BRACKETS:
                self.assert_same(read_wish(f"{near} is {far}"), Just(one, other, 0, 1))

    def test_each_rank(self):
        for rank, name in ((1, "hand"), (2, "strong"), (3, "fair"), (4, "faint")):
            self.assert_same(read_wish(f"left of a is left of b by {name}"), Just(A, B, rank, 1))
            self.assert_same(read_wish(f"left of a is left of b by {name} 7"), Just(A, B, rank, 7))

    def test_weights(self):
        for weight in (2, 3, 10, 999999, 1000000):
            self.assert_same(read_wish(f"left of a is left of b by fair {weight}"), Just(A, B, 3, weight))

    def test_wrong_weights_are_refused(self):
        for weight in ("0", "1", "1000001", "02", "-2", "+2", "2/1", "5/2", "", "two", "2 3", "\u0662", "99999999",
                       "0000002", "2 by fair"):
            self.assert_no_wish(read_wish, [f"left of a is left of b by fair {weight}"])

    def test_a_weight_without_a_rank_is_refused(self):
        self.assert_no_wish(read_wish, ["left of a is 4 by 2", "left of a is 4 2", "left of a is 4 by 2 strong"])

    def test_wrong_ranks_are_refused(self):
        for rank in ("must", "must 2", "Strong", "weak", "", "by", "1", "hand fair", "hand by fair"):
            self.assert_no_wish(read_wish, [f"left of a is 4 by {rank}"])

    def test_names_that_are_words_of_the_document(self):
        for name in NAMES_LIKE_WORDS:
            edge = Edge("left", name)
            with self.subTest(name):
                self.assert_same(read_wish(f"left of {name} is left of {name}"), Just(edge, edge, 0, 1))
                self.assert_same(read_wish(f"left of {name} at least left of {name} by hand"),
                                 AtLeast(edge, edge, 1, 1))

    def test_what_is_no_wish_is_refused(self):
        texts = [f"{near} is 4" for near in NO_SUMS] + [f"4 is {far}" for far in NO_SUMS]
        self.assert_no_wish(read_wish, texts)
        self.assert_no_wish(read_wish, (
            "", " ", "left of a", "is", "left of a is", "is 4", "left of a is is 4", "left of a is 4 is 4",
            "left of a at 4", "left of a least 4", "left of a at least", "left of a at  least 4", "left of a at is 4",
            "left of a most 4", "left of a at at least 4", "left of a at least least 4", "left of a at least most 4",
            "left of a = 4", "left of a is at least 4", "left of a is 4 by", "left of a is 4 strong", "by strong",
            "( left of a is 4 )", "( left of a ) is ( 4", "left of a is 4 )", "left of a is 4 by ( strong )",
            "left of a is 4 and", "left of a is 4 by strong ", "left of a is 4 ", " left of a is 4",
            "left of a is  4", "left of a is 4\n", "left of a IS 4", "left of a is 4 by strong and 2"))

    def test_words_of_both_ways_are_refused(self):
        for text in ("left of a is top of a", "left of a and top of a is 4", "4 at least gap of g less drop of g",
                     "0 times left of a is top of a", "left of frame at most top of frame by faint 3",
                     "( height of a ) is 2 times ( width of a and 1 ) by hand"):
            with self.subTest(text):
                with self.assertRaises(Mixed):
                    read_wish(text)

    def test_no_wish_comes_ahead_of_mixed(self):
        self.assert_no_wish(read_wish, (
            "left of a and top of a", "left of a is top of a by", "left of a is top of a by strong 1",
            "left of a is top of a and", "left of a is top of a ", "left of a and top of a is gap of frame",
            "left of a is top of a is 4", "left of a is top of a by strong 2 2",
            "left of a is " + "1 times " * 27 + "top of a"))

    def test_sixty_words_and_sixty_one(self):
        cases = (("at least", 57, "", 60), ("at most", 55, " by hand", 60), ("is", 55, " by strong 2", 60),
                 ("is", 59, "", 61), ("is", 57, " by fair", 61), ("at least", 55, " by faint 2", 61))
        for verb, count, tail, words in cases:
            text = f"4 {verb} {long_sum(count)}{tail}"
            self.assertEqual(len(text.split(" ")), words)
            if words == 60:
                self.assertEqual(read_wish(text).text(), text)
            else:
                self.assert_no_wish(read_wish, [text])


class TestReadAgain(ReadingCase):
    def term(self, chance, depth):
        pick = chance.randrange(5 if depth else 2)
        if pick == 0:
            top = chance.choice((0, 1, -1, 3, 999999, -999999))
            return Number((top, chance.choice((1, 2, 100001)) if top in (1, -1) else 1))
        if pick == 1:
            return Edge(chance.choice(WORDS[:5]), chance.choice(("a", "gap", "and", "abcdefgh")))
        if pick == 2:
            return Times(chance.choice(((0, 1), (-1, 2), (7, 1))), self.term(chance, depth - 1))
        return (Plus, Minus)[pick - 3](self.term(chance, depth - 1), self.term(chance, depth - 1))

    def test_wishes_are_read_from_their_texts_again(self):
        chance = random.Random(5)
        many = 0
        for count in range(1500):
            kind = chance.choice((Just, AtLeast, AtMost))
            rank = chance.randrange(5)
            weight = chance.choice((1, 2, 10 ** 6)) if rank else 1
            wish = kind(self.term(chance, 3), self.term(chance, 3), rank, weight)
            text = wish.text()
            if len(text.split(" ")) <= 60:
                many += 1
                self.assert_same(read_wish(text), wish)
                self.assertEqual(read_wish(text).text(), text)
            else:
                self.assert_no_wish(read_wish, [text])
        self.assertGreater(many, 1000)

    def test_a_must_is_read_with_the_weight_one(self):
        self.assert_same(read_wish(Just(A, B, 0, 9).text()), Just(A, B, 0, 1))

    def test_brackets_more_than_needed_are_not_written_again(self):
        for text, term in MORE_BRACKETS:
            self.assertEqual(read_wish(f"{text} is ( 4 )").text(), f"{term.text()} is 4")

    def test_no_bracket_of_a_text_can_be_left_out(self):
        for text in ("left of a less ( left of b and left of c ) is 4", "2 times ( left of a less 4 ) is 4",
                     "left of a and ( left of b and 4 ) is 4"):
            bare = text.replace("( ", "").replace(" )", "")
            self.assertEqual(read_wish(text).text(), text)
            self.assertNotEqual(shape(read_wish(bare)), shape(read_wish(text)))

    def test_numbers_of_seven_figures_are_not_read_again(self):
        self.assert_no_wish(read_wish, [Just(A, Number((10 ** 6, 1)), 0, 1).text()])

    def test_each_reading_is_a_new_one(self):
        one = read_wish("left of a is 4")
        other = read_wish("left of a is 4")
        one.rank = 3
        one.near.name = "z"
        self.assert_same(other, Just(A, Number((4, 1)), 0, 1))
        self.assert_same(read_wish("left of a is 4"), Just(A, Number((4, 1)), 0, 1))


class TestNames(unittest.TestCase):
    def test_arguments_go_by_their_names(self):
        self.assertEqual(read_sum(text="4").number, (4, 1))
        self.assertEqual(read_wish(text="4 is 4").rank, 0)


if __name__ == "__main__":
    unittest.main()
