"""Drawings: where panes stand, shown by signs, one for each little square."""

from springframe.parts import plus, under

NO_PANE = "."


def middles_within(start, length, many):
    """The numbers of those of so many squares in a line whose middles lie within the length from the start on."""
    end = plus(start, length)
    found = []
    for number in range(many):
        middle = (2 * number + 1, 2)
        if not under(middle, start) and under(middle, end):
            found.append(number)
    return found


def drawn(places, wide, high):
    """The drawing of the places: so many texts as it is high, of so many signs as it is wide."""
    squares = [[NO_PANE] * wide for row in range(high)]
    # Where panes lie over one another, the last one by name is drawn last and so is seen.
    for name in sorted(places):
        place = places[name]
        columns = middles_within(place[0], place[2], wide)
        for row in middles_within(place[1], place[3], high):
            for column in columns:
                squares[row][column] = name[0]
    return ["".join(signs) for signs in squares]
