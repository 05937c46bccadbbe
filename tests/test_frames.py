import copy
import random
import unittest

from checks import check_weights
from springframe.errors import Mixed, Named, NoName, NoPane, NoRank, NoSize, NoSuch, NoWish, Stuck, Taken, TooMany
from springframe.frames import Frame
from springframe.laying import laid
from springframe.reading import read_wish
from springframe.rows import row

ONE = (1, 1)
NOUGHT = (0, 1)


def whole(*numbers):
    """Fractions of whole numbers, as a place has them."""
    return tuple((number, 1) for number in numbers)


def frame_of(panes=(), wishes=(), width=100, height=50):
    frame = Frame(width, height)
    for name in panes:
        frame.pane(name)
    for text in wishes:
        frame.wish(text)
    return frame


def told(frame):
    """All that the frame tells."""
    try:
        laid_out = (frame.places(), list(frame.places()), frame.spans(), list(frame.spans()))
    except Stuck as stuck:
        laid_out = (stuck.direction, stuck.numbers, stuck.weights)
    return copy.deepcopy((laid_out, frame.panes(), frame.wishes()))


class FrameCase(unittest.TestCase):
    def refused(self, error, frame, call, *handed):
        """The call is refused with this very error, and changes nothing."""
        before = told(frame)
        with self.assertRaises(error) as caught:
            call(*handed)
        self.assertIs(type(caught.exception), error)
        self.assertEqual(told(frame), before)


class TestSize(FrameCase):
    def test_from_nought_to_a_million(self):
        for size in (0, 1, 10 ** 6):
            frame = frame_of(["a"], ["width of a is width of frame", "height of a is height of frame"], size, 10 ** 6 - size)
            self.assertEqual(frame.places()["a"], whole(0, 0, size, 10 ** 6 - size))

    def test_other_sizes_are_refused(self):
        for wrong in (-1, 10 ** 6 + 1, True, False, None, "5", (5, 1)):
            for width, height in ((wrong, 5), (5, wrong), (wrong, wrong)):
                with self.assertRaises(NoSize):
                    Frame(width, height)
                frame = frame_of(["a"], ["width of a is width of frame", "height of a is height of frame"])
                self.refused(NoSize, frame, frame.resize, width, height)

    def test_another_size(self):
        frame = frame_of(["a"], ["middle of a is middle of frame", "width of a is 10", "bottom of a is bottom of frame"])
        # The height is settled ahead of the top.
        self.assertEqual(frame.places()["a"], whole(45, 50, 10, 0))
        self.assertIsNone(frame.resize(31, 0))
        self.assertEqual(frame.places()["a"], ((21, 2), NOUGHT, (10, 1), NOUGHT))

    def test_only_one_of_both_is_changed(self):
        frame = frame_of(["a"], ["width of a is width of frame", "height of a is height of frame"])
        frame.resize(7, 50)
        self.assertEqual(frame.places()["a"], whole(0, 0, 7, 50))
        frame.resize(7, 8)
        self.assertEqual(frame.places()["a"], whole(0, 0, 7, 8))


class TestPanes(FrameCase):
    def test_put_in_and_told_sorted(self):
        frame = Frame(10, 10)
        self.assertEqual(frame.panes(), [])
        self.assertEqual(frame.places(), {})
        for name in ("of", "b", "abcdefgh", "a"):
            self.assertIsNone(frame.pane(name))
        self.assertEqual(frame.panes(), ["a", "abcdefgh", "b", "of"])
        self.assertEqual(list(frame.places()), ["a", "abcdefgh", "b", "of"])
        self.assertEqual(frame.places()["b"], whole(0, 0, 0, 0))

    def test_what_is_no_name(self):
        frame = frame_of(["a"])
        for name in ("frame", "", "A", "aB", "a1", "a b", " a", "abcdefghi", "\u00e4", "a\n", "-", 5, None, ["a"]):
            self.refused(NoName, frame, frame.pane, name)

    def test_taken(self):
        frame = frame_of(["a", "b"])
        self.refused(Taken, frame, frame.pane, "a")

    def test_too_many_unknowns(self):
        frame = frame_of(["a", "b", "c", "d"])
        self.refused(TooMany, frame, frame.pane, "e")

    def test_gaps_and_drops_count(self):
        for text in ("gap of g is 1", "drop of g is 1", "0 times gap of g is 1", "drop of g is drop of g"):
            frame = frame_of(["a", "b", "c"], [text])
            self.refused(TooMany, frame, frame.pane, "d")
            frame.take(0)
            frame.pane("d")

    def test_the_pull_counts(self):
        frame = frame_of(["a", "b", "c"])
        frame.pull("gap of g", ONE)
        self.refused(TooMany, frame, frame.pane, "d")
        frame.let_go()
        frame.pane("d")

    def test_two_refusals_at_once(self):
        frame = frame_of(["a", "b", "c", "d"])
        self.refused(NoName, frame, frame.pane, "frame")
        self.refused(NoName, frame, frame.pane, "E")
        self.refused(Taken, frame, frame.pane, "d")

    def test_taken_out(self):
        frame = frame_of(["a", "b"])
        self.assertIsNone(frame.remove("a"))
        self.assertEqual(frame.panes(), ["b"])
        self.refused(NoPane, frame, frame.remove, "a")
        self.refused(NoPane, frame, frame.remove, "frame")
        frame.pane("a")
        self.assertEqual(frame.panes(), ["a", "b"])

    def test_named(self):
        for word in ("left", "width", "right", "middle", "top", "height", "bottom", "centre"):
            frame = frame_of(["a", "b"], [f"0 times {word} of a is 0"])
            self.refused(Named, frame, frame.remove, "a")
            frame.remove("b")
            frame.take(0)
            frame.remove("a")

    def test_named_on_the_far_side_and_by_the_pull(self):
        frame = frame_of(["a"], ["4 at least left of a by faint"])
        self.refused(Named, frame, frame.remove, "a")
        frame.take(0)
        frame.pull("2 times ( top of a and 1 )", ONE)
        self.refused(Named, frame, frame.remove, "a")
        frame.let_go()
        frame.remove("a")

    def test_gaps_and_drops_name_no_pane(self):
        frame = frame_of(["a"], ["gap of a is 1", "drop of a is 1"])
        frame.pull("gap of a", ONE)
        frame.remove("a")
        self.assertEqual(frame.panes(), [])
        self.refused(NoPane, frame, frame.remove, "a")


class TestWishes(FrameCase):
    def test_numbers_are_counted_from_nought(self):
        frame = frame_of(["a"])
        self.assertEqual([frame.wish("left of a is 4"), frame.wish("left of a is 4"), frame.wish("top of a is 1 by faint")],
                         [0, 1, 2])
        self.assertEqual(frame.wishes(), [(0, "left of a is 4"), (1, "left of a is 4"), (2, "top of a is 1 by faint")])

    def test_no_number_is_given_twice(self):
        frame = frame_of(["a"], ["left of a is 4", "left of a is 5 by hand"])
        self.assertIsNone(frame.take(1))
        self.assertEqual(frame.wish("left of a is 6 by hand"), 2)
        frame.take(0)
        frame.take(2)
        self.assertEqual(frame.wishes(), [])
        self.assertEqual(frame.wish("left of a is 6 by hand"), 3)

    def test_what_is_refused_is_not_counted(self):
        frame = frame_of(["a"])
        self.refused(NoWish, frame, frame.wish, "left of a is")
        self.refused(Mixed, frame, frame.wish, "left of a is top of a")
        self.refused(NoPane, frame, frame.wish, "left of b is 4")
        self.assertEqual(frame.wish("left of a is 4"), 0)

    def test_texts_are_told_without_needless_brackets(self):
        frame = frame_of(["a"], ["( left of a ) is ( 4 and ( 5 ) )"])
        self.assertEqual(frame.wishes(), [(0, "left of a is 4 and 5")])

    def test_refused_as_reading_refuses(self):
        frame = frame_of(["a"])
        for text in ("", "left of a", "left of a is gap of frame", "left of a is 4 by strong 1", "left  of a is 4"):
            self.refused(NoWish, frame, frame.wish, text)

    def test_panes_that_are_not_there(self):
        frame = frame_of(["a"])
        for text in ("left of b is 4", "4 is left of b", "0 times left of b is 4", "left of b is left of b",
                     "top of a and height of b at least 3"):
            self.refused(NoPane, frame, frame.wish, text)

    def test_the_frame_and_gaps_are_no_panes(self):
        frame = Frame(10, 10)
        self.assertEqual(frame.wish("gap of b is width of frame by fair"), 0)
        self.assertEqual(frame.wish("drop of b is bottom of frame by fair"), 1)

    def test_sixteen_wishes_in_each_direction(self):
        frame = frame_of(["a"])
        for number in range(16):
            self.assertEqual(frame.wish("left of a is 4 by faint"), 2 * number)
            self.assertEqual(frame.wish("top of a is 4 by faint"), 2 * number + 1)
        self.refused(TooMany, frame, frame.wish, "left of a is 4 by faint")
        self.refused(TooMany, frame, frame.wish, "top of a is 4 by faint")
        self.refused(TooMany, frame, frame.wish, "4 is 4")
        frame.take(0)
        self.refused(TooMany, frame, frame.wish, "top of a is 4 by faint")
        self.assertEqual(frame.wish("4 is 4"), 32)
        frame.take(1)
        self.assertEqual(frame.wish("top of a is 4 by faint"), 33)

    def test_eight_unknowns_in_each_direction(self):
        frame = frame_of(["a", "b", "c"], ["gap of g and gap of h is 4", "drop of g is drop of h"])
        self.refused(TooMany, frame, frame.wish, "gap of i is 4")
        self.refused(TooMany, frame, frame.wish, "0 times drop of i is 4")
        self.assertEqual(frame.wish("gap of h is gap of g"), 2)
        frame.take(0)
        self.refused(TooMany, frame, frame.wish, "gap of i is 4")
        frame.take(2)
        self.assertEqual(frame.wish("gap of i is 4"), 3)

    def test_the_pull_counts_as_a_wish(self):
        frame = frame_of(["a"], ["left of a is 4 by faint"] * 15)
        frame.pull("left of a", ONE)
        self.refused(TooMany, frame, frame.wish, "left of a is 4 by faint")
        self.assertEqual(frame.wish("top of a is 4 by faint"), 15)
        frame.let_go()
        self.assertEqual(frame.wish("left of a is 4 by faint"), 16)

    def test_two_refusals_at_once(self):
        frame = frame_of(["a", "b", "c", "d"], ["left of a is 4 by faint"] * 16)
        self.refused(NoWish, frame, frame.wish, "left of z is top of z by")
        self.refused(Mixed, frame, frame.wish, "left of z is top of z")
        self.refused(NoPane, frame, frame.wish, "left of z is gap of g")
        self.refused(TooMany, frame, frame.wish, "left of a is gap of g")

    def test_taken_out_by_numbers_that_do_not_stand(self):
        frame = frame_of(["a"], ["left of a is 4", "left of a is 4"])
        for number in (2, -1, 10 ** 9):
            self.refused(NoSuch, frame, frame.take, number)
        for number in (True, False):
            self.refused(NoSuch, frame, frame.take, number)
        frame.take(0)
        self.refused(NoSuch, frame, frame.take, 0)
        self.assertEqual(frame.wishes(), [(1, "left of a is 4")])


class TestWeigh(FrameCase):
    def test_each_rank(self):
        frame = frame_of(["a"], ["left of a is 4 by strong 3"])
        for rank in ("hand", "strong", "fair", "faint"):
            self.assertIsNone(frame.weigh(0, rank, 1))
            self.assertEqual(frame.wishes(), [(0, f"left of a is 4 by {rank}")])
            frame.weigh(0, rank, 10 ** 6)
            self.assertEqual(frame.wishes(), [(0, f"left of a is 4 by {rank} 1000000")])

    def test_a_must_has_the_weight_one(self):
        frame = frame_of(["a"], ["left of a is 4 by strong 3"])
        frame.weigh(0, "must", 10 ** 6)
        self.assertEqual(frame.wishes(), [(0, "left of a is 4")])
        self.assertEqual(frame.standing[0].weight, 1)
        self.assertEqual(frame.standing[0].rank, 0)

    def test_it_counts(self):
        frame = frame_of(["a"], ["left of a is 4 by fair", "left of a is 9 by fair 2", "top of a is 3", "top of a is 5"])
        self.assertEqual(frame.wishes()[2:], [(2, "top of a is 3"), (3, "top of a is 5")])
        with self.assertRaises(Stuck):
            frame.places()
        frame.weigh(2, "hand", 1)
        self.assertEqual(frame.places()["a"], whole(9, 5, 0, 0))
        frame.weigh(0, "fair", 3)
        frame.weigh(3, "strong", 1)
        self.assertEqual(frame.places()["a"], whole(4, 3, 0, 0))
        frame.weigh(1, "must", 3)
        self.assertEqual(frame.places()["a"], whole(9, 3, 0, 0))

    def test_refusals(self):
        frame = frame_of(["a"], ["left of a is 4 by strong 3", "left of a is 5 by fair"])
        frame.take(1)
        for number in (1, 2, -1, True):
            self.refused(NoSuch, frame, frame.weigh, number, "hand", 1)
            self.refused(NoSuch, frame, frame.weigh, number, "none", 0)
        for rank in ("", "Must", "by hand", "none", "frame", 0, 1, None, ["hand"]):
            self.refused(NoRank, frame, frame.weigh, 0, rank, 1)
        for rank in ("must", "hand", "strong", "fair", "faint"):
            for weight in (0, -1, 10 ** 6 + 1):
                self.refused(NoRank, frame, frame.weigh, 0, rank, weight)


class TestPull(FrameCase):
    def test_it_is_by_hand(self):
        frame = frame_of(["a"], ["left of a is 4 by hand 2", "width of a is 8 by strong 9", "top of a at least 2"])
        self.assertIsNone(frame.pull("width of a", (7, 2)))
        self.assertEqual(frame.places()["a"], ((4, 1), (2, 1), (7, 2), NOUGHT))
        frame.pull("left of a", ONE)
        self.assertEqual(frame.places()["a"], whole(4, 2, 8, 0))
        frame.weigh(0, "strong", 10 ** 6)
        self.assertEqual(frame.places()["a"], whole(1, 2, 8, 0))

    def test_its_weight_is_one(self):
        frame = frame_of(["a"], ["left of a is 4 by hand"])
        frame.pull("left of a", (9, 1))
        # Both miss the same by any left between; then the least one is told.
        self.assertEqual(frame.places()["a"], whole(4, 0, 0, 0))

    def test_sums_are_pulled(self):
        frame = frame_of(["a"], ["left of a is 4"])
        frame.pull("2 times ( right of a less 1 )", (13, 1))
        self.assertEqual(frame.places()["a"], ((4, 1), NOUGHT, (7, 2), NOUGHT))

    def test_musts_go_first(self):
        frame = frame_of(["a"], ["right of a at most width of frame"])
        frame.pull("width of a", (10 ** 9, 1))
        self.assertEqual(frame.places()["a"], whole(0, 0, 100, 0))
        frame.pull("width of a", (-5, 1))
        self.assertEqual(frame.places()["a"], whole(0, 0, 0, 0))

    def test_it_is_no_wish(self):
        frame = frame_of(["a"])
        frame.pull("left of a", ONE)
        self.assertEqual(frame.wishes(), [])
        with self.assertRaises(NoSuch):
            frame.take(0)
        with self.assertRaises(NoSuch):
            frame.state(0)
        self.assertEqual(frame.wish("left of a is 4"), 0)

    def test_in_the_place_of_a_pull(self):
        frame = frame_of(["a", "b", "c"])
        frame.pull("gap of g and gap of h less left of a", ONE)
        self.assertEqual(frame.spans(), {"gap g": NOUGHT, "gap h": ONE})
        # Beside the old one there would be ten unknowns.
        frame.pull("gap of i and gap of k less left of b", (2, 1))
        self.assertEqual(frame.spans(), {"gap i": NOUGHT, "gap k": (2, 1)})
        frame.remove("a")
        self.refused(Named, frame, frame.remove, "b")
        frame.pull("top of c", (3, 1))
        self.assertEqual(frame.spans(), {})
        self.assertEqual(frame.places()["c"], whole(0, 3, 0, 0))
        frame.remove("b")

    def test_in_the_place_of_a_pull_among_sixteen(self):
        frame = frame_of(["a"], ["left of a is 4 by faint"] * 15 + ["top of a is 4 by faint"] * 16)
        frame.pull("left of a", ONE)
        frame.pull("left of a", (2, 1))
        self.assertEqual(frame.places()["a"], whole(2, 4, 0, 0))
        self.refused(TooMany, frame, frame.pull, "top of a", ONE)
        self.assertEqual(frame.places()["a"], whole(2, 4, 0, 0))

    def test_refused_it_leaves_the_old_one(self):
        frame = frame_of(["a", "b", "c"])
        frame.pull("left of a", ONE)
        for error, text in ((NoWish, ""), (NoWish, "left of a is 4"), (NoWish, "left of"), (NoWish, "gap of frame"),
                            (NoWish, "left of a and top of a and"), (Mixed, "left of a and top of a"),
                            (Mixed, "left of z less top of z"), (NoPane, "left of z"), (NoPane, "0 times left of z"),
                            (NoPane, "left of z and gap of g and gap of h and gap of i"),
                            (TooMany, "gap of g and gap of h and gap of i"),
                            (TooMany, "drop of g and drop of h and drop of i")):
            self.refused(error, frame, frame.pull, text, (5, 1))
            self.assertEqual(frame.places()["a"], whole(1, 0, 0, 0))
        self.refused(NoWish, frame, frame.pull, "4" + " and 4" * 30, ONE)

    def test_let_go(self):
        frame = frame_of(["a"])
        self.assertIsNone(frame.let_go())
        frame.pull("left of a and gap of g", (9, 1))
        self.assertEqual(frame.spans(), {"gap g": NOUGHT})
        self.assertEqual(frame.places()["a"], whole(9, 0, 0, 0))
        self.assertIsNone(frame.let_go())
        self.assertEqual(frame.places()["a"], whole(0, 0, 0, 0))
        self.assertEqual(frame.spans(), {})
        self.assertIsNone(frame.let_go())

    def test_a_number_is_pulled_across(self):
        frame = frame_of([], ["4 is 4 by faint"] * 16)
        self.refused(TooMany, frame, frame.pull, "7", ONE)
        frame.take(0)
        self.assertIsNone(frame.pull("7", ONE))


class TestPlaces(FrameCase):
    def test_the_document_s_example(self):
        frame = frame_of(["a", "b"], ["left of b is right of a and 8", "width of a at least 120 by strong 2",
                                      "right of b at most width of frame", "width of b is 20 by fair"])
        self.assertEqual(frame.places(), {"a": whole(0, 0, 92, 0), "b": whole(100, 0, 0, 0)})
        frame.resize(200, 50)
        self.assertEqual(frame.places(), {"a": whole(0, 0, 120, 0), "b": whole(128, 0, 20, 0)})

    def test_left_top_width_height(self):
        frame = frame_of(["b", "a"], ["left of a is 1", "top of a is 2", "width of a is 3", "height of a is 4"])
        self.assertEqual(frame.places(), {"a": whole(1, 2, 3, 4), "b": whole(0, 0, 0, 0)})
        self.assertEqual(list(frame.places()), ["a", "b"])
        for place in frame.places().values():
            self.assertIs(type(place), tuple)

    def test_unknowns_are_settled_in_the_order_of_their_texts(self):
        # gap g goes ahead of left a, left a ahead of left b, those ahead of width a.
        frame = frame_of(["b", "a"], ["left of a and left of b and width of a is 10", "gap of g and left of a is 4"])
        self.assertEqual(frame.spans(), {"gap g": NOUGHT})
        self.assertEqual(frame.places(), {"a": whole(4, 0, 6, 0), "b": whole(0, 0, 0, 0)})
        frame = frame_of(["a"], ["height of a and top of a is 10"])
        self.assertEqual(frame.places()["a"], whole(0, 10, 0, 0))

    def test_fractions(self):
        frame = frame_of(["a"], ["3 times width of a is width of frame", "centre of a is centre of frame",
                                 "height of a is 1/3"])
        self.assertEqual(frame.places()["a"], (NOUGHT, (149, 6), (100, 3), (1, 3)))

    def test_it_is_what_laying_out_the_rows_tells(self):
        texts = ["right of a and gap of g at most left of b by strong 3", "width of a is width of b by fair",
                 "gap of g at least 7", "right of b at most 90", "width of a at least 60 by faint 2", "left of a is 5 by hand"]
        frame = frame_of(["a", "b"], texts)
        rows = [row(*read_wish(text).row()) for text in texts]
        placing = laid(rows, ["gap g", "left a", "left b", "width a", "width b"])[0]
        places = frame.places()
        for name in ("a", "b"):
            self.assertEqual((places[name][0], places[name][2]), (placing[f"left {name}"], placing[f"width {name}"]))
        self.assertEqual(frame.spans(), {"gap g": placing["gap g"]})

    def test_each_direction_by_itself(self):
        frame = frame_of(["a"], ["left of a is 4 by hand", "top of a is 9 by faint", "left of a at most 6 by fair"])
        self.assertEqual(frame.places()["a"], whole(4, 9, 0, 0))

    def test_they_are_the_asker_s_own(self):
        frame = frame_of(["a"], ["gap of g is 1"])
        for call in (frame.places, frame.spans, frame.panes, frame.wishes):
            before = copy.deepcopy(call())
            call().clear()
            self.assertEqual(call(), before)


class TestSpans(FrameCase):
    def test_sorted(self):
        frame = frame_of([], ["gap of b is 1", "drop of z is 2", "gap of a is 3", "drop of c at least 4"])
        self.assertEqual(frame.spans(), {"drop c": (4, 1), "drop z": (2, 1), "gap a": (3, 1), "gap b": ONE})
        self.assertEqual(list(frame.spans()), ["drop c", "drop z", "gap a", "gap b"])

    def test_they_come_and_go_with_wishes(self):
        frame = frame_of(["a"], ["left of a is gap of g", "gap of g is 3"])
        self.assertEqual(frame.spans(), {"gap g": (3, 1)})
        frame.take(0)
        self.assertEqual(frame.spans(), {"gap g": (3, 1)})
        frame.take(1)
        self.assertEqual(frame.spans(), {})

    def test_also_where_they_come_to_nothing(self):
        frame = frame_of([], ["0 times gap of g is 0", "drop of h is drop of h by faint"])
        self.assertEqual(frame.spans(), {"drop h": NOUGHT, "gap g": NOUGHT})
        frame.take(0)
        self.assertEqual(frame.spans(), {"drop h": NOUGHT})
        frame.pull("0 times gap of k", ONE)
        self.assertEqual(frame.spans(), {"drop h": NOUGHT, "gap k": NOUGHT})
        frame.let_go()
        frame.take(1)
        self.assertEqual(frame.spans(), {})


class TestStuck(FrameCase):
    def stuck(self, frame):
        found = []
        calls = [frame.places, frame.spans] + [lambda number=number: frame.state(number) for number, text in frame.wishes()]
        for call in calls:
            with self.assertRaises(Stuck) as caught:
                call()
            found.append((caught.exception.direction, caught.exception.numbers, caught.exception.weights))
        self.assertEqual(found, [found[0]] * len(found))
        return found[0]

    def test_across(self):
        frame = frame_of(["a"], ["top of a is 1", "left of a is 1 by hand", "left of a at least 5", "width of a is 5",
                                 "left of a at most 3"])
        frame.pull("left of a", ONE)
        direction, numbers, weights = self.stuck(frame)
        self.assertEqual((direction, numbers, weights), ("across", [2, 4], [(1, 2), (-1, 2)]))

    def test_down(self):
        frame = frame_of(["a"], ["left of a is 1", "bottom of a at least 5", "height of a is 3", "bottom of a at most 2"])
        direction, numbers, weights = self.stuck(frame)
        self.assertEqual(direction, "down")
        self.assertIn(numbers, ([1, 3], [2, 3]))
        rows = [row(*read_wish(text).row()) for number, text in frame.wishes()]
        check_weights(self, rows, ["height a", "top a"], numbers, weights)

    def test_across_where_both_clash(self):
        frame = frame_of(["a"], ["top of a is 1", "top of a is 2", "left of a is 1", "left of a is 2"])
        self.assertEqual(self.stuck(frame)[:2], ("across", [2, 3]))
        frame.take(2)
        self.assertEqual(self.stuck(frame)[:2], ("down", [0, 1]))
        frame.take(1)
        self.assertEqual(frame.places()["a"], whole(2, 1, 0, 0))

    def test_numbers_are_those_of_the_wishes(self):
        frame = frame_of(["a"], ["left of a is 9"] * 4 + ["left of a is 1"])
        for number in (0, 1, 3):
            frame.take(number)
        self.assertEqual(self.stuck(frame)[:2], ("across", [2, 4]))

    def test_the_frame_s_size_counts(self):
        frame = frame_of(["a"], ["width of a is 60", "right of a at most right of frame", "left of a at least 50"])
        direction, numbers, weights = self.stuck(frame)
        self.assertEqual(numbers, [0, 1, 2])
        rows = [row({"width a": ONE}, "just", (60, 1)), row({"left a": ONE, "width a": ONE}, "most", (100, 1)),
                row({"left a": ONE}, "least", (50, 1))]
        check_weights(self, rows, ["left a", "width a"], numbers, weights)
        frame.resize(110, 50)
        self.assertEqual(frame.places()["a"], whole(50, 0, 60, 0))

    def test_all_other_things_are_done(self):
        frame = frame_of(["a"], ["left of a is 1", "left of a is 2"])
        frame.pane("b")
        self.assertEqual(frame.wish("top of b is 3"), 2)
        frame.pull("left of b", (7, 1))
        frame.let_go()
        frame.pull("left of b", (8, 1))
        frame.weigh(2, "fair", 4)
        frame.resize(5, 5)
        frame.pane("c")
        frame.remove("c")
        self.assertEqual(frame.panes(), ["a", "b"])
        self.assertEqual(frame.wishes()[2], (2, "top of b is 3 by fair 4"))
        frame.take(1)
        self.assertEqual(frame.places(), {"a": whole(1, 0, 0, 0), "b": whole(8, 3, 0, 0)})

    def test_its_lists_are_the_asker_s_own(self):
        frame = frame_of(["a"], ["left of a is 1", "left of a is 2"])
        before = self.stuck(frame)
        with self.assertRaises(Stuck) as caught:
            frame.places()
        caught.exception.numbers.clear()
        caught.exception.weights.clear()
        self.assertEqual(self.stuck(frame), before)


class TestState(FrameCase):
    def test_kept_and_missed(self):
        frame = frame_of(["a"], ["left of a is 4", "left of a is 13/2 by strong 3", "left of a at least 9 by fair",
                                 "left of a at most 1/3 by faint 9", "right of a at most width of frame by faint"])
        self.assertEqual([frame.state(number)[0] for number in range(5)],
                         [NOUGHT, (5, 2), (5, 1), (11, 3), NOUGHT])

    def test_the_frame_s_sizes_count(self):
        frame = frame_of(["a"], ["width of a is width of frame by fair", "width of a at most 70",
                                 "centre of frame at most 20 by faint"])
        self.assertEqual(frame.state(0), ((30, 1), False))
        self.assertEqual(frame.state(2), ((5, 1), True))

    def test_idle(self):
        frame = frame_of(["a"], ["left of a is 4", "left of a is 4", "left of a at least 3", "left of a is 9 by hand",
                                 "width of a at least 2 by faint", "4 is 5 by hand"])
        self.assertEqual([frame.state(number)[1] for number in range(6)], [True, True, True, True, False, True])
        frame.take(1)
        self.assertEqual(frame.state(0), (NOUGHT, False))

    def test_spans_are_no_matter_to_idle(self):
        frame = frame_of(["a"], ["gap of g is 3", "left of a is 4", "drop of g is 3"])
        self.assertEqual(frame.state(0), (NOUGHT, True))
        self.assertEqual(frame.state(2), (NOUGHT, True))
        frame.wish("right of a is gap of g and 5 by strong")
        self.assertEqual(frame.places()["a"], whole(4, 0, 4, 0))
        self.assertEqual(frame.state(0), (NOUGHT, False))

    def test_down(self):
        frame = frame_of(["a"], ["top of a is 4 by fair", "height of a at most 5", "height of a at least 5 by faint"])
        self.assertEqual([frame.state(number) for number in range(3)], [(NOUGHT, False), (NOUGHT, True), (NOUGHT, False)])

    def test_the_pull_counts(self):
        frame = frame_of(["a"], ["left of a is 4 by fair"])
        self.assertEqual(frame.state(0), (NOUGHT, False))
        frame.pull("left of a", (6, 1))
        self.assertEqual(frame.state(0), ((2, 1), True))

    def test_no_such_comes_ahead_of_stuck(self):
        frame = frame_of(["a"], ["left of a is 4", "left of a is 5", "left of a is 6"])
        frame.take(2)
        for number in (2, 3, -1, True):
            self.refused(NoSuch, frame, frame.state, number)
        with self.assertRaises(Stuck):
            frame.state(0)

    def test_a_wish_of_the_other_direction_is_stuck_too(self):
        frame = frame_of(["a"], ["left of a is 4", "top of a is 5", "top of a is 6"])
        with self.assertRaises(Stuck) as caught:
            frame.state(0)
        self.assertEqual(caught.exception.direction, "down")

    def test_without_panes_all_is_idle(self):
        frame = frame_of([], ["gap of g is 4"])
        self.assertEqual(frame.state(0), (NOUGHT, True))


class TestOnlyWhatStandsCounts(FrameCase):
    texts = ["left of b is right of a and gap of g", "gap of g is 8 by strong", "width of a is width of b by fair 2",
             "right of b at most right of frame", "width of a at least 120 by strong 2", "gap of g at least 2",
             "top of a is top of b", "height of a is 20 by faint", "height of a is 30 by faint",
             "bottom of b is bottom of frame by hand", "drop of h is top of b by fair", "left of a is 3 by hand"]

    def test_other_orders_tell_the_same(self):
        plain = frame_of(["a", "b"], self.texts)
        plain.pull("middle of a", (31, 1))
        wanted = (plain.places(), plain.spans())
        chance = random.Random(7)
        for count in range(12):
            frame = Frame(7, 7)
            names = ["a", "b"]
            texts = list(self.texts)
            chance.shuffle(names)
            chance.shuffle(texts)
            for name in names:
                frame.pane(name)
            frame.pull("gap of z", (4, 1))
            for text in texts:
                gone = frame.wish("left of a is 77 and gap of x by hand 9")
                if chance.random() < 0.5:
                    self.assertIsNotNone(frame.places())
                frame.wish(text)
                frame.take(gone)
            frame.pane("c")
            frame.wish("width of c is 4")
            frame.pull("middle of a", (31, 1))
            frame.take(frame.wishes()[-1][0])
            frame.remove("c")
            frame.resize(100, 50)
            self.assertEqual((frame.places(), frame.spans()), wanted)
            self.assertEqual((list(frame.places()), list(frame.spans())), (list(wanted[0]), list(wanted[1])))

    def test_ranks_and_weights_by_hand_or_by_text(self):
        plain = frame_of(["a", "b"], self.texts)
        frame = frame_of(["a", "b"], [text.split(" by ")[0] + " by hand 7" for text in self.texts])
        for number, text in enumerate(self.texts):
            rank = text.split(" by ")[1].split(" ") if " by " in text else ["must", "1"]
            frame.weigh(number, rank[0], int((rank + ["1"])[1]))
        self.assertEqual(frame.wishes(), plain.wishes())
        self.assertEqual((frame.places(), frame.spans()), (plain.places(), plain.spans()))

    def test_two_frames_have_nothing_in_common(self):
        one = frame_of(["a"], ["left of a is 4"])
        other = frame_of(["b"])
        self.assertEqual(one.panes(), ["a"])
        self.assertEqual(other.wishes(), [])
        self.assertEqual(other.wish("left of b is 4"), 0)


class TestNames(FrameCase):
    def test_arguments_go_by_their_names(self):
        frame = Frame(height=5, width=6)
        frame.resize(height=7, width=8)
        frame.pane(name="a")
        self.assertEqual(frame.wish(text="width of a is width of frame"), 0)
        frame.weigh(weight=2, rank="fair", number=0)
        frame.pull(value=ONE, text="top of a")
        self.assertEqual(frame.places(), {"a": whole(0, 1, 8, 0)})
        self.assertEqual(frame.state(number=0), (NOUGHT, False))
        frame.take(number=0)
        frame.let_go()
        frame.remove(name="a")


if __name__ == "__main__":
    unittest.main()
