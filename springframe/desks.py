"""The desk: a frame that is told lines and answers them."""

from springframe.drawings import drawn
from springframe.errors import NoLine, NoSize, NoWish
from springframe.figures import is_whole, read_number, show_number
from springframe.frames import Frame

MOST_FIGURES = 7
MOST_SIGNS = 60
# For the first word of each line that has a settled count of words, this count, and which of them are numbers.
COUNTS = {"pane": 2, "remove": 2, "take": 2, "weigh": 4, "size": 3, "let": 2,
          "places": 1, "spans": 1, "state": 2, "draw": 3, "wishes": 1}
NUMBERS = {"take": (1,), "weigh": (1, 3), "size": (1, 2), "state": (1,), "draw": (1, 2)}


def check_line(words):
    """Refuses words that are no line."""
    if words[0] not in COUNTS or len(words) != COUNTS[words[0]]:
        raise NoLine("there is no line of such words")
    for place in NUMBERS.get(words[0], ()):
        if not is_whole(words[place], MOST_FIGURES):
            raise NoLine("a number has one to seven figures, no nought ahead")
    if words[0] == "let" and words[1] != "go":
        raise NoLine("what is let is let go")


def fraction_of(word):
    """The fraction that the word of a line writes."""
    try:
        return read_number(word)
    except NoWish:
        raise NoLine("this is no fraction") from None


def listed(texts, between):
    """The texts with something between, or none."""
    return between.join(texts) if texts else "none"


def with_numbers(name, numbers):
    """The name and the numbers behind it."""
    return " ".join([name] + [show_number(number) for number in numbers])


class Desk:
    """A frame of a size, and what is said of it."""

    def __init__(self, width, height):
        self.frame = Frame(width, height)

    def say(self, line):
        """Does what the line says and tells the answer."""
        words = line.split(" ")
        if words[0] == "wish" and len(words) > 1:
            number = self.frame.wish(line.partition(" ")[2])
            return f"wish {number}"
        if words[0] == "pull" and len(words) > 2:
            value = fraction_of(words[1])
            self.frame.pull(" ".join(words[2:]), value)
            return "ok"
        check_line(words)
        if words[0] in ("places", "spans", "state", "draw", "wishes"):
            return self.answer(words)
        self.change(words)
        return "ok"

    def change(self, words):
        """Does what the words say."""
        word = words[0]
        if word == "pane":
            self.frame.pane(words[1])
        elif word == "remove":
            self.frame.remove(words[1])
        elif word == "take":
            self.frame.take(int(words[1]))
        elif word == "weigh":
            self.frame.weigh(int(words[1]), words[2], int(words[3]))
        elif word == "size":
            self.frame.resize(int(words[1]), int(words[2]))
        else:
            self.frame.let_go()

    def answer(self, words):
        """Tells what the words ask for."""
        word = words[0]
        if word == "places":
            return listed([with_numbers(name, place) for name, place in self.frame.places().items()], "; ")
        if word == "spans":
            return listed([with_numbers(span, [value]) for span, value in self.frame.spans().items()], "; ")
        if word == "state":
            return self.shown_state(int(words[1]))
        if word == "draw":
            return self.shown_drawing(int(words[1]), int(words[2]))
        return listed([f"{number} {text}" for number, text in self.frame.wishes()], "\n")

    def shown_state(self, number):
        """Whether the wish is kept, or by how much it is missed, and whether it is idle."""
        state = self.frame.state(number)
        missed = show_number(state[0])
        said = "kept" if missed == "0" else f"missed {missed}"
        return f"{said} idle" if state[1] else said

    def shown_drawing(self, wide, high):
        """The drawing of the frame's places."""
        if not 1 <= wide <= MOST_SIGNS or not 1 <= high <= MOST_SIGNS:
            raise NoSize("a drawing is from 1 to 60 signs wide and high")
        return "\n".join(drawn(self.frame.places(), wide, high))
