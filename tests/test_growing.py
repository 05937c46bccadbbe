import copy
import unittest
from fractions import Fraction

from checks import Draw, check_growth, check_weights, grown, laid_anew, of, told_by
from springframe.errors import Clash, TooMany
from springframe.frames import Frame
from springframe.growing import along, growth, rows_at
from springframe.laying import laid
from springframe.reading import read_wish
from springframe.rows import row

ONE = (1, 1)
HALF = (1, 2)
NOUGHT = (0, 1)
MINUS = (-1, 1)
EIGHT = ["a", "b", "c", "d", "e", "f", "g", "h"]


def whole(number):
    return (number, 1)


def tents(many):
    """Each unknown is how far the one ahead (the first: the width) is off a number: 2 ** many pieces from 0 to 512."""
    growing = []
    for place in range(many):
        off = (256 // 2 ** place, 1)
        under = (-off[0], 1)
        name = EIGHT[place]
        if place == 0:
            growing += [(row({name: ONE}, "least", under), ONE), (row({name: ONE}, "least", off), MINUS)]
        else:
            ahead = EIGHT[place - 1]
            growing += [(row({name: ONE, ahead: MINUS}, "least", under), NOUGHT),
                        (row({name: ONE, ahead: ONE}, "least", off), NOUGHT)]
    return (growing, EIGHT[:many])


class GrowingCase(unittest.TestCase):
    def told(self, growing, unknowns, start, stop, spots=4):
        """What growth tells, laid out anew at many widths."""
        got = growth(growing, unknowns, start, stop)
        check_growth(self, growing, unknowns, start, stop, got, spots)
        return got


class TestRowsAt(unittest.TestCase):
    def test_the_number_goes_by_the_width(self):
        one = row({"x": HALF, "y": MINUS}, "most", (3, 1), 2, 7)
        for pace, width, number in ((ONE, (5, 1), (8, 1)), (NOUGHT, (5, 1), (3, 1)), (MINUS, (5, 1), (-2, 1)),
                                    ((2, 3), (9, 4), (9, 2)), (ONE, NOUGHT, (3, 1)), ((1, 3), (-1, 2), (17, 6)),
                                    ((-3, 7), (7, 1), NOUGHT)):
            self.assertEqual(rows_at([(one, pace)], width), [({"x": HALF, "y": MINUS}, "most", number, 2, 7)])

    def test_each_kind_rank_and_weight_stays(self):
        for kind in ("least", "most", "just"):
            for rank in range(5):
                got = rows_at([(row({"x": ONE}, kind, ONE, rank, 10 ** 6 - rank), ONE)], ONE)
                self.assertEqual(got, [({"x": ONE}, kind, (2, 1), rank, 10 ** 6 - rank)])

    def test_the_order_stays_and_rows_come_as_often(self):
        one = row({"x": ONE}, "least", ONE)
        other = row({}, "just", ONE, 3)
        got = rows_at([(one, ONE), (other, NOUGHT), (one, ONE), (one, MINUS)], (4, 1))
        self.assertEqual([(told[0], told[2]) for told in got],
                         [({"x": ONE}, (5, 1)), ({}, ONE), ({"x": ONE}, (5, 1)), ({"x": ONE}, (-3, 1))])

    def test_none(self):
        self.assertEqual(rows_at([], ONE), [])

    def test_as_many_rows_and_unknowns_as_there_are(self):
        many = [(row({f"u{count}": ONE, f"v{count}": ONE}, "least", ONE), ONE) for count in range(40)]
        self.assertEqual(rows_at(many, (2, 1)), [(one[0], "least", (3, 1), 0, 1) for one, pace in many])

    def test_great_numbers(self):
        width = (10 ** 40 - 1, 10 ** 40 - 3)
        got = rows_at([(row({}, "least", (1, 10 ** 12 - 11)), (10 ** 12 - 1, 10 ** 12 - 39))], width)
        self.assertEqual(of(got[0][2]), Fraction(1, 10 ** 12 - 11) + of(width) * Fraction(10 ** 12 - 1, 10 ** 12 - 39))

    def test_what_is_told_is_the_askers_own(self):
        growing = [(row({"x": ONE}, "least", ONE), ONE)]
        before = copy.deepcopy(growing)
        got = rows_at(growing, NOUGHT)
        got[0][0]["y"] = ONE
        got.append(ONE)
        self.assertEqual(growing, before)
        self.assertEqual(rows_at(width=NOUGHT, growing=growing), [growing[0][0]])


class TestGrowth(GrowingCase):
    def test_one_line(self):
        growing = [(row({"x": ONE}, "least", (3, 1)), HALF)]
        self.assertEqual(self.told(growing, ["x"], whole(4), whole(10)), ({"x": (5, 1)}, [(whole(10), {"x": HALF})]))

    def test_lines_that_meet(self):
        # x is the width up to 5, and 5 from there on; y is what it leaves.
        growing = [(row({"x": ONE, "y": ONE}, "just", NOUGHT), ONE), (row({"x": ONE}, "most", (5, 1)), NOUGHT),
                   (row({"y": ONE}, "just", NOUGHT, 2), NOUGHT)]
        got = self.told(growing, ["x", "y"], NOUGHT, whole(8))
        self.assertEqual(got, ({"x": NOUGHT, "y": NOUGHT},
                               [(whole(5), {"x": ONE, "y": NOUGHT}), (whole(8), {"x": NOUGHT, "y": ONE})]))

    def test_paces_of_nought_below_and_fractions(self):
        growing = [(row({"x": ONE}, "least", (9, 1)), (-2, 3)), (row({"y": ONE}, "just", (1, 7)), NOUGHT),
                   (row({"z": (3, 1)}, "just", NOUGHT, 3), (2, 5)), (row({"x": ONE}, "least", ONE), NOUGHT)]
        got = self.told(growing, ["z", "x", "y"], whole(-3), whole(20))
        self.assertEqual(got[0], {"z": NOUGHT, "x": (11, 1), "y": (1, 7)})
        self.assertEqual(got[1], [(NOUGHT, {"z": NOUGHT, "x": (-2, 3), "y": NOUGHT}),
                                  (whole(12), {"z": (2, 15), "x": (-2, 3), "y": NOUGHT}),
                                  (whole(20), {"z": (2, 15), "x": NOUGHT, "y": NOUGHT})])

    def test_each_rank_and_weights_count(self):
        for rank in (1, 2, 3):
            growing = [(row({"x": ONE}, "just", NOUGHT, rank), ONE), (row({"x": ONE}, "just", (9, 1), rank + 1, 5), MINUS)]
            self.assertEqual(self.told(growing, ["x"], NOUGHT, whole(4))[1], [(whole(4), {"x": ONE})])
        for weight, pace in ((2, ONE), (4, MINUS)):
            growing = [(row({"x": ONE}, "just", NOUGHT, 2, 3), (2, 1)), (row({"x": ONE}, "just", (9, 1), 2, weight), MINUS)]
            got = self.told(growing, ["x"], NOUGHT, whole(3))
            self.assertEqual(got[1], [(whole(3), {"x": (2, 1) if pace == ONE else MINUS})])

    def test_the_order_of_the_unknowns_counts(self):
        growing = [(row({"x": ONE, "y": ONE}, "just", NOUGHT), ONE), (row({"x": ONE}, "most", (5, 1)), NOUGHT),
                   (row({"y": ONE}, "most", (7, 1)), NOUGHT)]
        for unknowns in (["x", "y"], ["y", "x"]):
            got = self.told(growing, unknowns, whole(4), whole(99))
            late, most = {"x": (whole(7), whole(12)), "y": (whole(5), whole(12))}[unknowns[0]]
            self.assertEqual([piece[0] for piece in got[1]], [late, most])
            self.assertEqual(got[1][0][1], {unknowns[0]: NOUGHT, unknowns[1]: ONE})
            self.assertEqual(got[1][1][1], {unknowns[0]: ONE, unknowns[1]: NOUGHT})

    def test_start_that_is_stop(self):
        growing = [(row({"x": ONE}, "least", (3, 1)), HALF)]
        self.assertEqual(self.told(growing, ["x"], whole(4), whole(4)), ({"x": (5, 1)}, []))

    def test_no_rows_and_no_unknowns(self):
        self.assertEqual(self.told([], [], NOUGHT, ONE), ({}, [(ONE, {})]))
        self.assertEqual(self.told([], ["x"], NOUGHT, ONE), ({"x": NOUGHT}, [(ONE, {"x": NOUGHT})]))
        self.assertEqual(self.told([], [], ONE, ONE), ({}, []))
        growing = [(row({}, "most", (5, 1), 1), MINUS), (row({}, "least", NOUGHT), NOUGHT)]
        self.assertEqual(self.told(growing, [], NOUGHT, whole(9)), ({}, [(whole(9), {})]))

    def test_lines_that_go_on_alike_are_one_piece(self):
        # At 5 the faint row is met and at 7 the fair one is missed, but x goes on as before.
        growing = [(row({"x": ONE}, "just", NOUGHT), ONE), (row({"x": ONE}, "just", (5, 1), 4), NOUGHT),
                   (row({"x": ONE}, "most", (7, 1), 3), NOUGHT)]
        self.assertEqual(self.told(growing, ["x"], NOUGHT, whole(9), 9)[1], [(whole(9), {"x": ONE})])

    def test_lines_that_meet_just_at_start_and_just_at_stop(self):
        growing = tents(3)[0]
        for start, stop, many in ((64, 128, 1), (64, 129, 2), (63, 128, 2), (0, 512, 8), (128, 448, 5), (447, 512, 2)):
            got = self.told(growing, EIGHT[:3], whole(start), whole(stop))
            self.assertEqual(len(got[1]), many)
            self.assertEqual(got[1][-1][0], whole(stop))

    def test_many_rows_that_stop_at_one_width(self):
        names = EIGHT[:4]
        growing = [(row({name: ONE}, "least", (-6, 1)), ONE) for name in names]
        growing += [(row({name: ONE}, "least", (6, 1)), MINUS) for name in names]
        growing += [(row({name: ONE, names[0]: MINUS}, "just", NOUGHT), NOUGHT) for name in names[1:]]
        growing += [(row({names[0]: ONE}, "most", NOUGHT, 1), NOUGHT)] * 2
        got = self.told(growing, names, NOUGHT, whole(13))
        self.assertEqual(got[1], [(whole(6), dict.fromkeys(names, MINUS)), (whole(13), dict.fromkeys(names, ONE))])
        got = self.told(growing, names, whole(6), whole(13))
        self.assertEqual(got[1], [(whole(13), dict.fromkeys(names, ONE))])

    def test_fractions_as_widths(self):
        growing = tents(2)[0]
        got = self.told(growing, ["a", "b"], (253, 3), (1283, 5))
        self.assertEqual([piece[0] for piece in got[1]], [whole(128), whole(256), (1283, 5)])

    def test_great_numbers(self):
        start = (10 ** 40 - 1, 10 ** 40 - 3)
        stop = (10 ** 40 - 3, 10 ** 39 + 7)
        growing = [(row({"x": (10 ** 12 - 1, 10 ** 12 - 11)}, "least", (7, 10 ** 12 - 39)), (1, 10 ** 12 - 63)),
                   (row({"x": (3, 10 ** 12 - 39), "y": ONE}, "just", (10 ** 12 - 1, 7), 2, 10 ** 6), (-10 ** 12 + 1, 13))]
        self.assertEqual(len(self.told(growing, ["x", "y"], start, stop)[1]), 2)

    def test_a_weight_somewhat_beyond_the_bound(self):
        growing = [(({"x": ONE}, "just", NOUGHT, 2, 10 ** 6 + 1), ONE), (({"x": ONE}, "just", ONE, 2, 10 ** 6), NOUGHT)]
        self.assertEqual(self.told(growing, ["x"], NOUGHT, ONE)[1], [(ONE, {"x": ONE})])

    def test_rows_drawn_by_lot(self):
        draw = Draw(61)
        seen = []
        for count in range(160):
            figures = (0, 0, 9, 10 ** 12 - 1)[count % 4]
            growing, unknowns = draw.growing(figures, 12, 6, ([0, 1, 2, 3, 4], [0, 4, 4, 4])[count // 4 % 2])
            start = draw.fraction(figures)
            stop = told_by(of(start) + draw.chance.choice((1, 10, 100, Fraction(1, 3))))
            try:
                seen.append(len(self.told(growing, unknowns, start, stop, 2)[1]))
            except Clash as clash:
                check_weights(self, grown(growing, of(start)), unknowns, clash.numbers, clash.weights)
        # Enough of each sort came up for the test to mean something.
        for many, least in ((0, 2), (1, 40), (2, 10), (3, 2)):
            self.assertGreaterEqual(seen.count(many), least)
        self.assertGreater(max(seen), 5)


class TestClashes(GrowingCase):
    def growing(self):
        # No x is at least the width and at most 10, for widths above 10; below 2 another must is missed.
        return [(row({"x": ONE}, "least", NOUGHT), ONE), (row({"y": ONE}, "just", ONE, 3), NOUGHT),
                (row({"x": ONE}, "most", (10, 1)), NOUGHT), (row({}, "most", (-2, 1)), ONE)]

    def test_behind_some_width(self):
        for start in (2, 9):
            got = self.told(self.growing(), ["x", "y"], whole(start), whole(12))
            self.assertEqual(got, ({"x": whole(start), "y": ONE}, [(whole(10), {"x": ONE, "y": NOUGHT})]))

    def test_just_up_to_stop(self):
        got = self.told(self.growing(), ["x", "y"], whole(2), whole(10))
        self.assertEqual(got[1], [(whole(10), {"x": ONE, "y": NOUGHT})])

    def test_at_each_width_above_start(self):
        got = self.told(self.growing(), ["x", "y"], whole(10), whole(12))
        self.assertEqual(got, ({"x": whole(10), "y": ONE}, []))

    def test_at_one_width_alone_there_is_a_placing(self):
        growing = [(row({"x": ONE}, "just", NOUGHT), ONE), (row({"x": ONE}, "just", (5, 1)), NOUGHT)]
        self.assertEqual(self.told(growing, ["x"], whole(5), whole(6)), ({"x": whole(5)}, []))

    def test_what_falls_below_nought_clashes(self):
        growing = [(row({"x": ONE}, "just", (5, 1)), MINUS)]
        self.assertEqual(self.told(growing, ["x"], NOUGHT, whole(6))[1], [(whole(5), {"x": MINUS})])

    def test_a_row_without_unknowns(self):
        for kind, number, pace in (("least", (5, 3), (-1, 3)), ("most", (-5, 3), (1, 3))):
            growing = [(row({}, kind, number, 2, 9), pace)]
            self.assertEqual(self.told(growing, [], NOUGHT, whole(6))[1], [(whole(6), {})])
            growing = [(row({}, kind, tuple((-number[0], 3))), (-pace[0], 3))]
            self.assertEqual(self.told(growing, [], NOUGHT, whole(6))[1], [(whole(5), {})])

    def test_at_start(self):
        for start, stop, numbers in ((11, 12, [0, 2]), (11, 11, [0, 2]), (0, 5, [3]), (1, 1, [3])):
            with self.assertRaises(Clash) as caught:
                growth(self.growing(), ["x", "y"], whole(start), whole(stop))
            clash = caught.exception
            self.assertEqual(clash.numbers, numbers)
            check_weights(self, grown(self.growing(), start), ["x", "y"], clash.numbers, clash.weights)

    def test_only_musts_clash(self):
        growing = [(one[:3] + (rank, 1), pace) for rank, (one, pace) in enumerate(self.growing(), start=1)]
        self.assertEqual(self.told(growing, ["x", "y"], NOUGHT, whole(12))[1][-1][0], whole(12))

    def test_lines_meet_ahead_of_a_clash(self):
        # y is 1 by the fair wish, so x is 7 until the width asks for more.
        growing = self.growing() + [(row({"y": ONE, "x": ONE}, "least", (8, 1)), NOUGHT)]
        got = self.told(growing, ["x", "y"], whole(3), whole(12))
        self.assertEqual(got[1], [(whole(7), {"x": NOUGHT, "y": NOUGHT}), (whole(10), {"x": ONE, "y": NOUGHT})])


class TestMany(GrowingCase):
    def test_more_than_forty_pieces(self):
        growing, unknowns = tents(6)
        got = self.told(growing, unknowns, NOUGHT, whole(512), 2)
        self.assertEqual([piece[0] for piece in got[1]], [whole(8 * count) for count in range(1, 41)])
        self.assertEqual(along(got, NOUGHT, whole(320)), laid_anew(self, growing, unknowns, 320))
        # There is a placing there, but no piece tells it.
        self.assertIsNotNone(laid_anew(self, growing, unknowns, 321))
        self.assertIsNone(along(got, NOUGHT, whole(321)))

    def test_just_forty_and_one_off(self):
        growing, unknowns = tents(6)
        for stop, many, end in ((312, 39, 312), (313, 40, 313), (320, 40, 320), (321, 40, 320), (328, 40, 320)):
            got = growth(growing, unknowns, NOUGHT, whole(stop))
            self.assertEqual((len(got[1]), got[1][-1][0]), (many, whole(end)))

    def test_the_fortieth_goes_on_as_far_as_its_paces(self):
        growing, unknowns = tents(6)
        # Missed from 316 on, within the fortieth piece, without a change of the paces.
        growing.append((row({"a": ONE}, "most", (60, 1), 4), NOUGHT))
        for stop in (320, 512):
            got = growth(growing, unknowns, NOUGHT, whole(stop))
            self.assertEqual((len(got[1]), got[1][-1][0]), (40, whole(320)))

    def test_all_rows_and_unknowns_there_may_be(self):
        growing, unknowns = tents(8)
        self.assertEqual((len(growing), len(unknowns)), (16, 8))
        self.assertEqual(len(self.told(growing, unknowns, whole(500), whole(512), 2)[1]), 6)

    def test_more_rows_or_unknowns_are_refused_ahead_of_a_clash(self):
        for start, stop in ((0, 1), (3, 3)):
            for one in (row({}, "least", ONE), row({}, "most", ONE)):
                with self.assertRaises(TooMany):
                    growth([(one, NOUGHT)] * 17, ["x"], whole(start), whole(stop))
                with self.assertRaises(TooMany):
                    growth([(one, NOUGHT)], EIGHT + ["i"], whole(start), whole(stop))
            with self.assertRaises(Clash):
                growth([(row({}, "least", ONE), NOUGHT)] * 16, EIGHT, whole(start), whole(stop))
            growth([(row({}, "most", ONE), NOUGHT)] * 16, EIGHT, whole(start), whole(stop))


class TestAlong(GrowingCase):
    def test_at_start_amid_at_each_end_and_behind(self):
        growing, unknowns = tents(3)
        got = growth(growing, unknowns, whole(100), whole(400))
        self.assertEqual([piece[0][0] for piece in got[1]], [128, 192, 256, 320, 384, 400])
        for width in [100, 101, 128, Fraction(385, 3), 160, 192, 256, 300, 320, 384, 399, 400]:
            placing = along(got, whole(100), told_by(width))
            self.assertEqual(placing, laid_anew(self, growing, unknowns, width))
            self.assertEqual(list(placing), unknowns)
        for width in (Fraction(1201, 3), 401, 10 ** 40):
            self.assertIsNone(along(got, whole(100), told_by(width)))

    def test_by_what_was_told_alone(self):
        told = ({"y": (1, 2), "x": (7, 1)}, [(whole(3), {"x": MINUS, "y": HALF}), (whole(5), {"x": (2, 1), "y": NOUGHT})])
        for width, placing in ((ONE, {"y": HALF, "x": (7, 1)}), ((2, 1), {"y": ONE, "x": (6, 1)}),
                               ((3, 1), {"y": (3, 2), "x": (5, 1)}), ((7, 2), {"y": (3, 2), "x": (6, 1)}),
                               ((5, 1), {"y": (3, 2), "x": (9, 1)}), ((6, 1), None)):
            self.assertEqual(along(told, ONE, width), placing)

    def test_without_pieces(self):
        told = ({"x": HALF}, [])
        self.assertEqual(along(told, (2, 1), (2, 1)), {"x": HALF})
        self.assertIsNone(along(told, (2, 1), (5, 2)))

    def test_without_unknowns(self):
        self.assertEqual(along(({}, [(ONE, {})]), NOUGHT, ONE), {})
        self.assertIsNone(along(({}, [(ONE, {})]), NOUGHT, (2, 1)))


class TestNothingIsShared(GrowingCase):
    def test_nothing_handed_in_is_changed(self):
        growing, unknowns = tents(3)
        handed = (growing, unknowns, NOUGHT, whole(512))
        before = copy.deepcopy(handed)
        got = growth(*handed)
        again = copy.deepcopy(got)
        self.assertEqual(handed, before)
        for to, paces in got[1]:
            paces.clear()
        got[0].clear()
        got[1].clear()
        self.assertEqual(handed, before)
        self.assertEqual(growth(*handed), again)

    def test_what_along_tells_is_the_askers_own(self):
        growing, unknowns = tents(2)
        got = growth(growing, unknowns, NOUGHT, whole(512))
        before = copy.deepcopy(got)
        for width in (0, 1, 128, 512):
            along(got, NOUGHT, whole(width)).clear()
            self.assertEqual(got, before)

    def test_no_dict_stands_twice_in_what_is_told(self):
        growing, unknowns = tents(3)
        got = growth(growing, unknowns, NOUGHT, whole(512))
        dicts = [got[0]] + [paces for to, paces in got[1]]
        self.assertEqual(len({id(thing) for thing in dicts}), len(dicts))

    def test_arguments_go_by_their_names(self):
        got = growth(stop=ONE, start=NOUGHT, unknowns=["x"], growing=[])
        self.assertEqual(along(width=ONE, start=NOUGHT, told=got), {"x": NOUGHT})


class TestFramesThatGrow(GrowingCase):
    def test_a_frame_of_each_width_tells_the_same(self):
        texts = ["left of b is right of a and 8", "right of b at most right of frame and gap of g",
                 "width of a is 2 times width of b by fair", "width of a at most 40", "middle of b is middle of frame by hand",
                 "width of b at least 1/3 times width of frame by strong 2", "gap of g is 0 by faint"]
        frame = Frame(0, 10)
        for name in ("a", "b"):
            frame.pane(name)
        growing = []
        for text in texts:
            frame.wish(text)
            parts, kind, number, rank, weight = read_wish(text).row()
            pace = told_by(-of(parts.pop("width frame", NOUGHT)))
            growing.append(((parts, kind, number, rank, weight), pace))
        unknowns = ["gap g", "left a", "left b", "width a", "width b"]
        got = self.told(growing, unknowns, NOUGHT, whole(300))
        self.assertGreater(len(got[1]), 3)
        for width in range(0, 301, 12):
            frame.resize(width, 10)
            placing = along(got, NOUGHT, whole(width))
            self.assertEqual(frame.spans(), {"gap g": placing["gap g"]})
            for name, place in frame.places().items():
                self.assertEqual((place[0], place[2]), (placing[f"left {name}"], placing[f"width {name}"]))

    def test_the_placing_at_start_is_what_laying_out_tells(self):
        growing, unknowns = tents(4)
        for start in (0, 7, 100, 512):
            rows = rows_at(growing, whole(start))
            self.assertEqual(growth(growing, unknowns, whole(start), whole(512))[0], laid(rows, unknowns)[0])


if __name__ == "__main__":
    unittest.main()
