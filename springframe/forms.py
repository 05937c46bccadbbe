"""Forms and copies: texts of wishes, all of them musts where a form does not say otherwise, made for some names."""

from springframe.figures import show_number
from springframe.parts import NOUGHT
from springframe.reading import read_filled


def filled(lines, names):
    """The lines with the names put in for their holes, as texts of wishes."""
    return [read_filled(line, names).text() for line in lines]


def same(word, name, other_word, other):
    """That the word of the name is the other word of the other name."""
    return f"{word} of {name} is {other_word} of {other}"


def behind(word, name, other_word, other, space):
    """That the word of the name is the other word of the other name and a space."""
    bare = same(word, name, other_word, other)
    if space == NOUGHT:
        return bare
    number = show_number(space)
    return f"{bare} and {number}"


def row_of(names, space):
    """That each name stands behind the one ahead of it."""
    return [behind("left", name, "right", ahead, space) for ahead, name in zip(names, names[1:])]


def column_of(names, space):
    """That each name stands below the one ahead of it."""
    return [behind("top", name, "bottom", ahead, space) for ahead, name in zip(names, names[1:])]


def grid(names, many, space):
    """That the names stand in lines of so many each."""
    texts = []
    for place, name in enumerate(names):
        if place % many != 0:
            ahead = names[place - 1]
            texts.append(behind("left", name, "right", ahead, space))
            texts.append(same("top", name, "top", ahead))
        if place >= many:
            above = names[place - many]
            texts.append(behind("top", name, "bottom", above, space))
            texts.append(same("left", name, "left", above))
    return texts


def alike(names):
    """That all are as wide as the first."""
    return [same("width", name, "width", names[0]) for name in names[1:]]


def alike_high(names):
    """That all are as high as the first."""
    return [same("height", name, "height", names[0]) for name in names[1:]]
