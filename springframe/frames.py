"""The frame: panes and wishes that come and go, and where the panes stand by them."""

from springframe.errors import Clash, Named, NoName, NoPane, NoRank, NoSize, NoSuch, Stuck, Taken, TooMany
from springframe.laying import placed
from springframe.parts import NOUGHT, minus
from springframe.reading import read_sum, read_wish
from springframe.rows import MOST_ROWS, MOST_UNKNOWNS, MOST_WEIGHT, row
from springframe.sums import put_in
from springframe.wishes import RANKS, Just
from springframe.words import FRAME, SPANS, Number, is_name, unknown_of, way_of

MOST_SIZE = 1000000
WAYS = ("across", "down")
# The words of the unknowns that a pane brings in each direction.
PANE_WORDS = {"across": ("left", "width"), "down": ("top", "height")}
PLACE_WORDS = ("left", "top", "width", "height")
HAND = 1


def is_size(size):
    """Whether a frame may be so wide or so high."""
    return isinstance(size, int) and not isinstance(size, bool) and 0 <= size <= MOST_SIZE


def pane_unknowns(way, names):
    """The unknowns that the panes of these names bring in a direction."""
    found = []
    for word in PANE_WORDS[way]:
        found.extend([unknown_of(word, name) for name in names])
    return found


def span_unknowns(way, wishes):
    """The gaps or drops of a direction that stand in the texts of the wishes, each as often as it does."""
    found = []
    for wish in wishes:
        for word, name in wish.edges():
            if word in SPANS and way_of(word) == way:
                found.append(unknown_of(word, name))
    return found


def unknowns_of(way, names, wishes):
    """The unknowns of a direction, sorted, each once."""
    return sorted(set(pane_unknowns(way, names) + span_unknowns(way, wishes)))


def pane_names(wish):
    """The names in the wish that must be a pane's or the frame's."""
    return [edge[1] for edge in wish.edges() if edge[0] not in SPANS]


def check_room(names, wishes):
    """Refuses more unknowns or wishes in a direction than there may be."""
    for way in WAYS:
        many = len([wish for wish in wishes if wish.way() == way])
        if many > MOST_ROWS or len(unknowns_of(way, names, wishes)) > MOST_UNKNOWNS:
            raise TooMany("there are at most 16 wishes and 8 unknowns in each direction")


def framed_row(wish, sizes):
    """The wish's row with the frame's sizes put in."""
    bare = wish.row()
    lead = (bare[0], minus(NOUGHT, bare[2]))
    for unknown, size in sizes.items():
        lead = put_in(lead, unknown, ({}, size))
    return row(lead[0], bare[1], minus(NOUGHT, lead[1]), bare[3], bare[4])


class Frame:
    """A frame of a size with its panes, the wishes that stand, by their numbers, and perhaps a pull."""

    def __init__(self, width, height):
        self.resize(width, height)
        self.names = []
        self.standing = {}
        self.given = 0
        self.pulled = None

    def resize(self, width, height):
        """Gives the frame another size."""
        if not is_size(width) or not is_size(height):
            raise NoSize("a frame is from 0 to 10 ** 6 wide and high")
        self.wide = width
        self.high = height

    def pane(self, name):
        """Puts a pane in."""
        if not is_name(name) or name == FRAME:
            raise NoName("a pane is called by one to eight small letters, but not frame")
        if name in self.names:
            raise Taken("such a pane is there")
        check_room(self.names + [name], self.all_wishes())
        self.names = sorted(self.names + [name])

    def remove(self, name):
        """Takes a pane out."""
        if name not in self.names:
            raise NoPane("no such pane is there")
        if any([name in pane_names(wish) for wish in self.all_wishes()]):
            raise Named("a wish or the pull names this pane")
        self.names = [other for other in self.names if other != name]

    def panes(self):
        """The names of the panes, sorted."""
        return list(self.names)

    def wish(self, text):
        """Puts a wish in and tells its number."""
        wish = read_wish(text)
        self.check_wish(wish, self.all_wishes())
        number = self.given
        self.standing[number] = wish
        self.given += 1
        return number

    def take(self, number):
        """Takes a wish out."""
        self.wish_by(number)
        self.standing.pop(number)

    def weigh(self, number, rank, weight):
        """Gives a wish another rank and weight."""
        wish = self.wish_by(number)
        if rank not in RANKS or not 1 <= weight <= MOST_WEIGHT:
            raise NoRank("a rank is one of the five texts, a weight from 1 to 10 ** 6")
        wish.rank = RANKS.index(rank)
        wish.weight = 1 if rank == "must" else weight

    def wishes(self):
        """The pairs (number, text) of the wishes that stand, by rising numbers."""
        return [(number, self.standing[number].text()) for number in sorted(self.standing)]

    def pull(self, text, value):
        """Pulls a sum to a value by hand, in the place of what was pulled so far."""
        wish = Just(read_sum(text), Number(value), HAND, 1)
        self.check_wish(wish, list(self.standing.values()))
        self.pulled = wish

    def let_go(self):
        """Takes the pull away, if there is one."""
        self.pulled = None

    def places(self):
        """Where the panes stand: a dict from their names to tuples (left, top, width, height)."""
        placing = self.placing()
        places = {}
        for name in self.names:
            places[name] = tuple([placing[unknown_of(word, name)] for word in PLACE_WORDS])
        return places

    def spans(self):
        """What the gaps and drops are: a dict from their unknowns."""
        placing = self.placing()
        found = []
        for way in WAYS:
            found.extend(span_unknowns(way, self.all_wishes()))
        spans = {}
        for unknown in sorted(found):
            spans[unknown] = placing[unknown]
        return spans

    def state(self, number):
        """(missed, idle): by how much the wish is missed, and whether the panes stand the same without it."""
        wish = self.wish_by(number)
        placing = self.placing()
        way = wish.way()
        without = self.lay_out(way, self.wishes_along(way, number))
        idle = all([without[unknown] == placing[unknown] for unknown in pane_unknowns(way, self.names)])
        return (wish.missed(placing), idle)

    def wish_by(self, number):
        """The wish that stands by this number."""
        # True and False would be taken for 1 and 0.
        if isinstance(number, bool) or number not in self.standing:
            raise NoSuch("no wish stands by this number")
        return self.standing[number]

    def all_wishes(self):
        """The wishes that stand, and the pull."""
        wishes = list(self.standing.values())
        return wishes if self.pulled is None else wishes + [self.pulled]

    def check_wish(self, wish, others):
        """Refuses a wish that names a pane that is not there, or that is too many beside these others."""
        if not all([name == FRAME or name in self.names for name in pane_names(wish)]):
            raise NoPane("the wish names a pane that is not there")
        check_room(self.names, others + [wish])

    def numbers_along(self, way):
        """The numbers of the wishes of a direction, rising."""
        return [number for number in sorted(self.standing) if self.standing[number].way() == way]

    def wishes_along(self, way, left_out):
        """The wishes of a direction by rising numbers, without the one that is left out, and then the pull."""
        wishes = [self.standing[number] for number in self.numbers_along(way) if number != left_out]
        if self.pulled is not None and self.pulled.way() == way:
            wishes.append(self.pulled)
        return wishes

    def sizes(self):
        """What the unknowns of the frame itself are."""
        return {unknown_of("width", FRAME): (self.wide, 1), unknown_of("height", FRAME): (self.high, 1)}

    def lay_out(self, way, wishes):
        """The placing of a direction by these wishes of it."""
        sizes = self.sizes()
        rows = [framed_row(wish, sizes) for wish in wishes]
        return placed(rows, unknowns_of(way, self.names, wishes))

    def placing(self):
        """What all unknowns are, those of the frame too."""
        told = self.sizes()
        for way in WAYS:
            try:
                told.update(self.lay_out(way, self.wishes_along(way, None)))
            except Clash as clash:
                numbers = self.numbers_along(way)
                # Only musts clash, and the pull, whose row is the last, is none: so places are those of the numbers.
                raise Stuck(way, [numbers[place] for place in clash.numbers], clash.weights) from None
        return told
