"""Numbers as texts: by figures, or as TOP/BOTTOM in lowest terms."""

from springframe.errors import NoWish
from springframe.parts import part

FIGURES = "0123456789"
MOST_FIGURES = 6


def is_whole(word, most):
    """Whether the word is a whole number from 0 on, of at most so many figures, no nought ahead but in 0 itself."""
    if word == "" or len(word) > most or not all([sign in FIGURES for sign in word]):
        return False
    return word == "0" or word[0] != "0"


def read_number(word):
    """The fraction that the word writes."""
    pieces = word.split("/")
    figures = list(pieces)
    if word.startswith("-"):
        figures[0] = pieces[0][1:]
    if len(pieces) > 2 or not all([is_whole(piece, MOST_FIGURES) for piece in figures]):
        raise NoWish("this is no number")
    bottom = int(pieces[1]) if len(pieces) == 2 else 1
    if bottom == 0:
        raise NoWish("no number has the bottom 0")
    number = part(int(pieces[0]), bottom)
    # Each number has just one text, so -0, 2/4, 0/3 and 3/1 are none of a number's.
    if show_number(number) != word:
        raise NoWish("this number is written otherwise")
    return number


def show_number(number):
    """The text of the fraction, whatever figures it has."""
    top = str(number[0])
    if number[1] == 1:
        return top
    bottom = str(number[1])
    return f"{top}/{bottom}"
