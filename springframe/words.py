"""Terms: what wishes speak of, each standing for a sum of unknowns."""

from springframe.figures import show_number
from springframe.parts import NOUGHT
from springframe.sums import added, made, reduced, scaled

FRAME = "frame"
LETTERS = "abcdefghijklmnopqrstuvwxyz"
MOST_LETTERS = 8
ACROSS = ("left", "width", "right", "middle", "gap")
DOWN = ("top", "height", "bottom", "centre", "drop")
SPANS = ("gap", "drop")
STARTS = ("left", "top")

# For each word the unknowns that it is made of, by their own words, and how much of each.
WORTHS = {
    "left": (("left", (1, 1)),),
    "width": (("width", (1, 1)),),
    "right": (("left", (1, 1)), ("width", (1, 1))),
    "middle": (("left", (1, 1)), ("width", (1, 2))),
    "gap": (("gap", (1, 1)),),
    "top": (("top", (1, 1)),),
    "height": (("height", (1, 1)),),
    "bottom": (("top", (1, 1)), ("height", (1, 1))),
    "centre": (("top", (1, 1)), ("height", (1, 2))),
    "drop": (("drop", (1, 1)),),
}


def is_name(word):
    """Whether the word is a name: one to eight small letters."""
    if not isinstance(word, str) or not 1 <= len(word) <= MOST_LETTERS:
        return False
    return all([sign in LETTERS for sign in word])


def unknown_of(word, name):
    """The unknown that goes by this word and name."""
    return f"{word} {name}"


def way_of(word):
    """The direction of a word."""
    return "down" if word in DOWN else "across"


def bracketed(term):
    """The term's text where only one term may stand."""
    text = term.text()
    if isinstance(term, (Plus, Minus)):
        return f"( {text} )"
    return text


class Term:
    """The base, not used by itself."""

    def edges(self):
        """The pairs (word, name) that stand in the term, from left to right: none, unless the kind has some."""
        return []

    def ways(self):
        """The directions of the words that stand in the term, sorted, each once."""
        return sorted(set([way_of(edge[0]) for edge in self.edges()]))


class Number(Term):
    """A fraction by itself."""

    def __init__(self, number):
        self.number = number

    def worth(self):
        """The sum that the term stands for."""
        return made({}, self.number)

    def text(self):
        """The term as it is written."""
        return show_number(self.number)


class Edge(Term):
    """What a word tells of a pane, a gap or the frame."""

    def __init__(self, word, name):
        self.word = word
        self.name = name

    def edges(self):
        return [(self.word, self.name)]

    def worth(self):
        """The sum that the term stands for."""
        parts = {}
        for word, share in WORTHS[self.word]:
            # The frame begins at 0 in both directions.
            if self.name != FRAME or word not in STARTS:
                parts[unknown_of(word, self.name)] = share
        return made(parts, NOUGHT)

    def text(self):
        """The term as it is written."""
        word = self.word
        name = self.name
        return f"{word} of {name}"


class Times(Term):
    """A fraction times an inner term."""

    def __init__(self, number, inner):
        self.number = number
        self.inner = inner

    def edges(self):
        return self.inner.edges()

    def worth(self):
        """The sum that the term stands for."""
        return scaled(self.inner.worth(), self.number)

    def text(self):
        """The term as it is written."""
        number = show_number(self.number)
        inner = bracketed(self.inner)
        return f"{number} times {inner}"


class Plus(Term):
    """Both terms together."""

    def __init__(self, one, other):
        self.one = one
        self.other = other

    def edges(self):
        return self.one.edges() + self.other.edges()

    def worth(self):
        """The sum that the term stands for."""
        return added(self.one.worth(), self.other.worth())

    def text(self):
        """The term as it is written."""
        one = self.one.text()
        other = bracketed(self.other)
        return f"{one} and {other}"


class Minus(Term):
    """The one term less the other."""

    def __init__(self, one, other):
        self.one = one
        self.other = other

    def edges(self):
        return self.one.edges() + self.other.edges()

    def worth(self):
        """The sum that the term stands for."""
        return reduced(self.one.worth(), self.other.worth())

    def text(self):
        """The term as it is written."""
        one = self.one.text()
        other = bracketed(self.other)
        return f"{one} less {other}"
