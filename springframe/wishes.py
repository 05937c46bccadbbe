"""Wishes: what is asked of two terms, and how much it counts."""

from springframe.errors import Mixed
from springframe.parts import NOUGHT, minus
from springframe.rows import missed
from springframe.sums import reduced

# By their places: a wish of rank 2 is a strong one.
RANKS = ("must", "hand", "strong", "fair", "faint")


class Wish:
    """The base, not used by itself; the kinds tell kind(), that of the row, and verb(), that of the text."""

    def __init__(self, near, far, rank, weight):
        if len(set(near.ways() + far.ways())) > 1:
            raise Mixed("a wish has words of one direction alone")
        self.near = near
        self.far = far
        self.rank = rank
        self.weight = weight

    def edges(self):
        """The pairs (word, name) that stand in the wish, from left to right."""
        return self.near.edges() + self.far.edges()

    def way(self):
        """The direction of the wish."""
        return "down" if "down" in self.near.ways() + self.far.ways() else "across"

    def row(self):
        """The wish as a tuple (parts, kind, number, rank, weight)."""
        lead = reduced(self.near.worth(), self.far.worth())
        return (lead[0], self.kind(), minus(NOUGHT, lead[1]), self.rank, self.weight)

    def missed(self, placing):
        """By how much the wish is missed at the placing."""
        return missed(self.row(), placing)

    def text(self):
        """The wish as it is written."""
        near = self.near.text()
        verb = self.verb()
        far = self.far.text()
        said = f"{near} {verb} {far}"
        if self.rank == 0:
            return said
        rank = RANKS[self.rank]
        if self.weight == 1:
            return f"{said} by {rank}"
        weight = self.weight
        return f"{said} by {rank} {weight}"


class Just(Wish):
    """Near is far."""

    def kind(self):
        return "just"

    def verb(self):
        return "is"


class AtLeast(Wish):
    """Near is at least far."""

    def kind(self):
        return "least"

    def verb(self):
        return "at least"


class AtMost(Wish):
    """Near is at most far."""

    def kind(self):
        return "most"

    def verb(self):
        return "at most"
