"""Clashes: musts that no placing keeps, and the weights that show it."""

from springframe.errors import Clash
from springframe.parts import NOUGHT, over
from springframe.rows import MUST
from springframe.tables import settled_musts


def shown_clash(rows, unknowns, numbers):
    """A dict from numbers among these, all of musts, to weights that show a clash; empty where there is none."""
    sheet = settled_musts([rows[number] for number in numbers], unknowns)
    missed = sheet.value(0)
    shown = {}
    if missed == NOUGHT:
        return shown
    for number, price in zip(numbers, sheet.prices(sheet.settled[0])):
        if price != NOUGHT:
            shown[number] = over(price, missed)
    return shown


def least_clash(rows, unknowns, numbers):
    """Such a dict, of which no number can be left out."""
    clash = shown_clash(rows, unknowns, numbers)
    # A number that could not be left out of more cannot be left out of fewer, so each is tried once.
    for number in list(clash):
        if number in clash:
            fewer = shown_clash(rows, unknowns, [other for other in clash if other != number])
            clash = fewer if fewer else clash
    return clash


def fitted(rows, unknowns, numbers):
    """The sheet of the rows of these numbers, the musts among them kept; Clash where they cannot be."""
    sheet = settled_musts([rows[number] for number in numbers], unknowns)
    if sheet.value(0) == NOUGHT:
        return sheet
    clash = least_clash(rows, unknowns, [number for number in numbers if rows[number][3] == MUST])
    raise Clash(list(clash), list(clash.values()))
