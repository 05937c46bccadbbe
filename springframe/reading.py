"""Texts read as sums and as wishes."""

from springframe.errors import NoWish
from springframe.figures import is_whole, read_number
from springframe.rows import MOST_WEIGHT
from springframe.wishes import RANKS, AtLeast, AtMost, Just
from springframe.words import ACROSS, DOWN, FRAME, SPANS, Edge, Minus, Number, Plus, Times, is_name

MOST_WORDS = 60
# No good weight has more figures.
WEIGHT_FIGURES = 7


class Reader:
    """The words of a text, read from the first to the last, and the names that its holes stand for."""

    def __init__(self, text, names):
        self.words = text.split(" ")
        self.names = names
        self.place = 0
        if len(self.words) > MOST_WORDS:
            raise NoWish("a text has at most sixty words")

    def ahead(self):
        """The word that is read next; behind the last one a word without signs, which means nothing."""
        return self.words[self.place] if self.place < len(self.words) else ""

    def step(self):
        """The word that is read next, and past it."""
        word = self.ahead()
        self.place += 1
        return word

    def expect(self, word):
        """Past this very word."""
        if self.step() != word:
            raise NoWish(f"the word {word} is missing")

    def at_end(self):
        """Whether every word is read."""
        return self.place >= len(self.words)

    def finish(self):
        """Sees to it that no word is left."""
        if not self.at_end():
            raise NoWish("there are words behind the end")

    def read_term(self):
        """The one term that stands ahead."""
        word = self.step()
        if word == "(":
            inner = self.read_terms()
            self.expect(")")
            return inner
        if word in ACROSS or word in DOWN:
            return self.read_edge(word)
        number = read_number(word)
        if self.ahead() != "times":
            return Number(number)
        self.step()
        return Times(number, self.read_term())

    def read_edge(self, word):
        """What the word tells of the name that stands ahead."""
        self.expect("of")
        name = self.read_name()
        if not is_name(name) or (name == FRAME and word in SPANS):
            raise NoWish("this is not the name of such a thing")
        return Edge(word, name)

    def read_name(self):
        """The word that stands ahead or, where it is a hole, the name that it stands for."""
        word = self.step()
        # Only here is a figure a hole: elsewhere it is a number. A hole that has no name stays a figure, so no name.
        if is_whole(word, 1) and 1 <= int(word) <= len(self.names):
            return self.names[int(word) - 1]
        return word

    def read_terms(self):
        """The sum that stands ahead: as many terms as go on by `and` and `less`, the left ones first."""
        term = self.read_term()
        while self.ahead() == "and" or self.ahead() == "less":
            if self.step() == "and":
                term = Plus(term, self.read_term())
            else:
                term = Minus(term, self.read_term())
        return term

    def read_verb(self):
        """The word or the two words that tell the kind of a wish."""
        word = self.step()
        if word == "at":
            behind = self.step()
            word = f"at {behind}"
        if word not in ("is", "at least", "at most"):
            raise NoWish("a wish says is, at least or at most")
        return word

    def read_rank(self):
        """The rank that stands ahead, 0 where none does."""
        if self.at_end():
            return 0
        self.expect("by")
        word = self.step()
        # A must is written without its rank.
        if word not in RANKS[1:]:
            raise NoWish("this is no rank")
        return RANKS.index(word)

    def read_weight(self):
        """The weight that stands ahead, 1 where none does."""
        if self.at_end():
            return 1
        word = self.step()
        if not is_whole(word, WEIGHT_FIGURES) or not 2 <= int(word) <= MOST_WEIGHT:
            raise NoWish("this is no weight")
        return int(word)


def read_sum(text):
    """The term that the text writes."""
    reader = Reader(text, [])
    term = reader.read_terms()
    reader.finish()
    return term


def read_wish(text):
    """The wish that the text writes."""
    return read_filled(text, [])


def read_filled(text, names):
    """The wish that the text writes where each hole, a figure in the place of a name, is the name of that number."""
    reader = Reader(text, names)
    near = reader.read_terms()
    verb = reader.read_verb()
    far = reader.read_terms()
    rank = reader.read_rank()
    weight = reader.read_weight()
    # The whole text is read ahead of making the wish: where it is none, that counts more than mixed words.
    reader.finish()
    if verb == "at least":
        return AtLeast(near, far, rank, weight)
    if verb == "at most":
        return AtMost(near, far, rank, weight)
    return Just(near, far, rank, weight)
