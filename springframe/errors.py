"""The refusals: one class for each, all straight under FrameError."""


class FrameError(ValueError):
    """Any refusal."""


class NoPart(FrameError):
    """A fraction of bottom 0, or one over 0."""


class NoWish(FrameError):
    """A text that is no wish, or a kind that no row has."""


class Mixed(FrameError):
    """A wish with words across and words down."""


class NoRank(FrameError):
    """A rank or a weight out of its range."""


class TooMany(FrameError):
    """More unknowns, rows or wishes than there may be."""


class NoPaper(FrameError):
    """A paper that does not hold."""


class NoName(FrameError):
    """A text that no pane may be called by."""


class Taken(FrameError):
    """A name that a pane has already."""


class NoPane(FrameError):
    """A pane that is not there."""


class Named(FrameError):
    """A pane that a wish or the pull still names."""


class NoSuch(FrameError):
    """A number by which no wish stands."""


class NoSize(FrameError):
    """A size out of its range."""


class NoLine(FrameError):
    """A line that the desk does not know."""


class Clash(FrameError):
    """Musts that cannot all be kept, with the weights that show it."""

    def __init__(self, numbers, weights):
        # Without words of its own the error would hold on to the lists handed in.
        FrameError.__init__(self, "these musts cannot all be kept")
        self.numbers = list(numbers)
        self.weights = list(weights)


class Stuck(FrameError):
    """A direction of a frame whose musts clash, with the wishes that do."""

    def __init__(self, direction, numbers, weights):
        # Without words of its own the error would hold on to the lists handed in.
        FrameError.__init__(self, "these wishes cannot all be kept")
        self.direction = direction
        self.numbers = list(numbers)
        self.weights = list(weights)
