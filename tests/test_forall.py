"""[5.6] to [5.9]: what is the same, never seen, exchanged, dissolved or joined for all pictures."""

import unittest

from paintershouse.errors import Missing, NotAllowed
from paintershouse.forall import (
    dissolved, exchanged_above, hidden_points, joined_above, judge_difference, may_dissolve, may_exchange, same_for_all,
    sight_paper,
)
from paintershouse.layers import check_document, flattened, names_of, over_all, remove, seen
from paintershouse.opened import pixel_seen
from paintershouse.pictures import blank, points_of
from paintershouse.pixels import MODES
from tests.making import GREYS, NAMES, Maker, dot
from tests.test_layers import DOT, LOOK, TABLES, all_layers, group, paint, plain_over, tone
from tests.test_opened import WRONG_OPENS, opened_documents

CLEAR, RED, BLUE = (0, 0, 0, 0), (15, 0, 0, 15), (0, 0, 15, 15)
KEEP = tuple(range(16))
OFF = (0, "plain", 15, ())
# Some greys for pairs of open layers; all of them would be many.
FEW = [GREYS[0]] + [(level,) * 3 + (cover,) for cover in (1, 7, 8, 15) for level in (0, 4, 9, 15)]


def grey_fillings(opens):
    """All grey pixels of one open layer, some pairs of those of two."""
    if len(opens) == 1:
        return [(pixel,) for pixel in GREYS]
    return [(one, other) for one in FEW for other in FEW]


def plain_differ(first, second, opens, point):
    """Some pixels with which two documents show different pixels at a point, or None."""
    for pixels in grey_fillings(opens):
        if pixel_seen(first, opens, point, pixels) != pixel_seen(second, opens, point, pixels):
            return pixels
    return None


def nearly(maker, document, opens):
    """A document with the same open layers that may show the same."""
    wide, high, layers = document
    way = maker.number(0, 6)
    if way == 0:
        return (wide, high, layers + (paint("zz", (1, "times", 0, ()), maker.picture(wide, high)),))
    if way == 1:
        return (wide, high, layers + (paint("zz", LOOK, blank(wide, high)),))
    if way == 2:
        return (wide, high, (group("zz", *layers),))
    closed = [item[1] for item in all_layers(layers) if not set(opens) & {one[1] for one in all_layers((item,))}]
    if way == 3 and closed:
        return remove(document, maker.one_of(closed))
    if way == 4 and closed:
        groups = [item[1] for item in all_layers(layers) if item[0] == "group" and item[1] in closed]
        return flattened(document, maker.one_of(groups)) if groups else document
    made = []
    for kind, name, look, inner in layers:
        if way == 5 and name not in opens and kind == "paint":
            x, y = maker.number(0, wide - 1), maker.number(0, high - 1)
            inner = tuple(
                tuple(maker.pixel() if (i, j) == (x, y) else inner[j][i] for i in range(wide)) for j in range(high)
            )
        elif way == 6:
            look = (look[0], maker.one_of(MODES), look[2], look[3])
        made.append((kind, name, look, inner))
    return (wide, high, tuple(made))


def groupable(document, other):
    try:
        check_document(other)
    except NotAllowed:
        return document
    return other


class SameTests(unittest.TestCase):
    def check(self, first, second, opens):
        """Checks an answer against all grey pixels of one open layer, or some pairs of two."""
        answer = same_for_all(first, second, opens)
        wide, high, _ = first
        differing = [point for point in points_of(wide, high) if plain_differ(first, second, opens, point)]
        if answer[0] == "same":
            self.assertEqual((answer, differing), (("same", ()), []))
            return answer[0]
        word, (point, pixels) = answer
        self.assertEqual((word, len(pixels)), ("differ", len(opens)))
        self.assertNotEqual(pixel_seen(first, opens, point, pixels), pixel_seen(second, opens, point, pixels))
        self.assertIs(judge_difference(first, second, opens, (point, pixels)), True)
        if len(opens) == 1:
            self.assertEqual(point, differing[0])
        else:
            self.assertTrue(not differing or points_of(wide, high).index(point) <= points_of(wide, high).index(differing[0]))
        return word

    def test_plain_reading(self):
        words = []
        for maker, document, opens in opened_documents(171, 220):
            other = groupable(document, nearly(maker, document, opens))
            words.append((self.check(document, other, opens), len(opens)))
        for word in ("same", "differ"):
            for many in (1, 2):
                self.assertGreater(words.count((word, many)), 5)

    def test_colours_tell_no_more_than_greys(self):
        same = 0
        for maker, document, opens in opened_documents(172, 120):
            other = groupable(document, nearly(maker, document, opens))
            if same_for_all(document, other, opens)[0] == "same":
                same += 1
                for x, y in points_of(*document[:2]):
                    for _ in range(30):
                        pixels = tuple(maker.pixel() for _ in opens)
                        one = pixel_seen(document, opens, (x, y), pixels)
                        self.assertEqual(pixel_seen(other, opens, (x, y), pixels), one)
        self.assertGreater(same, 30)

    def test_two_open_layers_against_all_pairs(self):
        # Only with both of them of certain covers do the documents differ.
        def made(mode):
            return (1, 1, (paint("a"), paint("b", (1, mode, 15, ()))))
        pairs = [(one, other) for one in GREYS for other in GREYS]
        for first, second in ((made("plain"), made("darker")), (made("times"), made("times"))):
            wanted = next((pixels for pixels in pairs if pixel_seen(first, ("a", "b"), (0, 0), pixels)
                           != pixel_seen(second, ("a", "b"), (0, 0), pixels)), None)
            self.assertIs(same_for_all(first, second, ("a", "b"))[0] == "same", wanted is None)

    def test_a_single_colour_and_the_cover_tell_apart(self):
        def made(tables):
            return (1, 1, (paint("a"), tone("t", LOOK, tables)))
        for k in range(4):
            for level in (0, 1, 15):
                table = tuple((old + 1) % 16 if old == level else old for old in KEEP)
                tables = TABLES[:k] + (table,) + TABLES[k + 1:]
                answer = self.check(made(TABLES), made(tables), ("a",))
                # A clear pixel has no colours.
                self.assertEqual(answer, "differ")

    def test_open_layers_within_groups(self):
        inner = ("group", "g", (1, "times", 9, ()), (paint("a", (1, "screen", 7, ())), paint("c")))
        first = (1, 1, (paint("x", LOOK, ((BLUE,),)), inner, paint("b", (1, "apart", 12, ()))))
        self.assertEqual(self.check(first, first, ("a", "b")), "same")
        self.assertEqual(self.check(first, remove(first, "c"), ("a", "b")), "differ")
        self.assertEqual(self.check(first, remove(first, "x"), ("a", "b")), "differ")
        self.assertEqual(self.check(remove(first, "c"), dissolved(remove(first, "c"), "g"), ("a", "b")), "differ")
        deep = (1, 1, (group("p", group("q", group("r", group("s", paint("a"))))),))
        self.assertEqual(self.check(deep, (1, 1, (paint("a"),)), ("a",)), "same")

    def test_the_first_point(self):
        first = (3, 2, (paint("a", LOOK, blank(3, 2)),))
        for point in points_of(3, 2):
            second = (3, 2, (paint("low", LOOK, dot(3, 2, point, RED)), paint("a", LOOK, blank(3, 2))))
            self.assertEqual(same_for_all(first, second, ("a",))[1][0], point)

    def test_what_the_open_layers_have_themselves_counts_for_nothing(self):
        first, second = (1, 1, (paint("a", LOOK, ((RED,),)),)), (1, 1, (paint("a", LOOK, ((BLUE,),)),))
        self.assertEqual(same_for_all(first, second, ("a",)), ("same", ()))

    def test_papers(self):
        first, second = (2, 1, (paint("a", LOOK, blank(2, 1)),)), (2, 1, (paint("a", (1, "plain", 15, ((15, 0),)), blank(2, 1)),))
        self.assertEqual(same_for_all(first, second, ("a",))[1][0], (1, 0))
        self.assertIs(judge_difference(first, second, ("a",), ((1, 0), (RED,))), True)
        for paper in (
            ((0, 0), (RED,)), ((1, 0), (CLEAR,)), ((2, 0), (RED,)), ((1, 1), (RED,)), ((-1, 0), (RED,)), ((1, 0), ()),
            ((1, 0), (RED, RED)), ((1, 0), ((15, 0, 0),)), ((1, 0), ((16, 0, 0, 15),)), ((1, 0), ((1, 0, 0, 0),)), ((1, 0), ((),)),
        ):
            self.assertIs(judge_difference(first, second, ("a",), paper), False, paper)

    def test_wrong_values(self):
        document = (1, 1, (paint("a"), group("b", tone("c"), paint("d"), group("e", paint("f"))), paint("g")))
        for opens in WRONG_OPENS:
            self.refused(document, document, opens)
        for other in (
            (1, 2, (paint("a", LOOK, DOT * 2), paint("d", LOOK, DOT * 2))), (1, 1, (paint("a"),)), (1, 1, ()),
            (1, 1, (paint("d"), paint("a"))), (1, 1, (paint("a"), tone("d"))), (1, 1, (paint("a"), group("d"))),
        ):
            self.refused(document, other, ("a", "d"))
            self.refused(other, document, ("a", "d"))

    def refused(self, first, second, opens):
        self.assertRaises(NotAllowed, same_for_all, first, second, opens)
        self.assertRaises(NotAllowed, judge_difference, first, second, opens, ((0, 0), (RED,) * len(opens)))


class HiddenTests(unittest.TestCase):
    def test_plain_reading(self):
        hidden = 0
        for _, document, opens in opened_documents(173, 70):
            for name in opens:
                points = hidden_points(document, opens, name)
                for point in points_of(*document[:2]):
                    self.check_point(document, opens, name, point, point in points)
                hidden += len(points)
                self.assertEqual(points, [point for point in points_of(*document[:2]) if point in points])
        self.assertGreater(hidden, 30)

    def check_point(self, document, opens, name, point, hidden):
        which = opens.index(name)
        shown = {}
        for pixels in grey_fillings(opens):
            others = pixels[:which] + pixels[which + 1:]
            shown.setdefault(others, set()).add(pixel_seen(document, opens, point, pixels))
        varies = any(len(pixels) > 1 for pixels in shown.values())
        if hidden:
            self.assertFalse(varies)
            self.assertRaises(Missing, sight_paper, document, opens, name, point)
            return
        if len(opens) == 1:
            self.assertTrue(varies)
        pixels, pixel, there = sight_paper(document, opens, name, point)
        self.assertEqual((there, len(pixels)), (point, len(opens)))
        other = pixels[:which] + (pixel,) + pixels[which + 1:]
        self.assertNotEqual(pixel_seen(document, opens, point, pixels), pixel_seen(document, opens, point, other))

    def test_examples(self):
        look = (1, "plain", 15, ((15, 0, 15),))
        document = (3, 1, (paint("low", LOOK, ((RED,) * 3,)), paint("top", look, ((BLUE, BLUE, (1, 2, 3, 14)),))))
        self.assertEqual(hidden_points(document, ("low",), "low"), [(0, 0)])
        self.assertEqual(hidden_points(document, ("top",), "top"), [(1, 0)])
        self.assertEqual(hidden_points(document, ("low", "top"), "low"), [])
        self.assertEqual(hidden_points(document, ("low", "top"), "top"), [(1, 0)])

    def test_layers_that_are_never_seen(self):
        whole = [(0, 0)]
        for layers in (
            (paint("a", OFF),), (paint("a", (1, "plain", 0, ())),), (paint("a", (1, "plain", 15, ((0,),))),),
            (paint("a"), paint("b", LOOK, ((RED,),))), (("group", "g", OFF, (paint("a"),)),),
            (paint("a"), tone("t", LOOK, TABLES[:3] + ((0,) * 16,))), (paint("a"), tone("t", LOOK, ((5,) * 16,) * 4)),
            (("group", "g", (1, "screen", 0, ()), (paint("a"),)),), (group("g", paint("a")), paint("b")),
        ):
            self.assertEqual(hidden_points((1, 1, layers), ("a",), "a"), whole)
        for layers in (
            (paint("a"),), (paint("a"), paint("b", (1, "plain", 14, ()))), (paint("b"), paint("a")),
            (paint("a"), tone("t", (0, "plain", 15, ()), ((5,) * 16,) * 4)), (group("g", paint("a")),),
            (paint("a"), paint("b", (1, "times", 15, ()))),
        ):
            self.assertEqual(hidden_points((1, 1, layers), ("a",), "a"), [])

    def test_layers_of_which_one_colour_or_the_cover_alone_is_seen(self):
        for k in range(4):
            tables = tuple(KEEP if k == place else (9,) * 16 for place in range(4))
            document = (1, 1, (paint("a"), tone("t", LOOK, tables)))
            self.assertEqual(hidden_points(document, ("a",), "a"), [])
            self.check_point(document, ("a",), "a", (0, 0), False)

    def test_the_list_is_new(self):
        document = (1, 1, (paint("a", OFF),))
        hidden_points(document, ("a",), "a").clear()
        self.assertEqual(hidden_points(document, ("a",), "a"), [(0, 0)])

    def test_wrong_values(self):
        document = (1, 1, (paint("a", OFF), group("b", tone("c"), paint("d"), group("e", paint("f"))), paint("g")))
        for opens in WRONG_OPENS:
            self.assertRaises(NotAllowed, hidden_points, document, opens, "a")
            self.assertRaises(NotAllowed, sight_paper, document, opens, "a", (0, 0))
        for name in ("d", "c", "z", ""):
            self.assertRaises(NotAllowed, hidden_points, document, ("a", "f"), name)
            self.assertRaises(NotAllowed, sight_paper, document, ("a", "f"), name, (0, 0))
        for point in ((1, 0), (0, 1), (-1, 0)):
            self.assertRaises(NotAllowed, sight_paper, document, ("a",), "a", point)
        self.assertRaises(Missing, sight_paper, document, ("a",), "a", (0, 0))


class ExchangeTests(unittest.TestCase):
    def setUp(self):
        self.document = (1, 1, (paint("a"), group("b", tone("c"), paint("d"), group("e")), paint("f")))

    def test_exchanged(self):
        a, b, f = self.document[2]
        self.assertEqual(exchanged_above(self.document, "a"), (1, 1, (b, a, f)))
        self.assertEqual(exchanged_above(self.document, "b"), (1, 1, (a, f, b)))
        self.assertEqual(
            exchanged_above(self.document, "d"), (1, 1, (a, group("b", tone("c"), group("e"), paint("d")), f))
        )

    def test_dissolved(self):
        a, b, f = self.document[2]
        self.assertEqual(dissolved(self.document, "b"), (1, 1, (a,) + b[3] + (f,)))
        self.assertEqual(dissolved(self.document, "e"), (1, 1, (a, group("b", tone("c"), paint("d")), f)))

    def test_errors(self):
        for name in ("z", "", "A", "e", "f"):
            self.assertRaises(Missing, exchanged_above, self.document, name)
            self.assertRaises(Missing, may_exchange, self.document, ("a",), name)
            self.assertRaises(Missing, joined_above, self.document, name)
        for name in ("z", "", "A"):
            self.assertRaises(Missing, dissolved, self.document, name)
            self.assertRaises(Missing, may_dissolve, self.document, ("a",), name)
        for name in ("a", "c", "d", "f"):
            self.assertRaises(NotAllowed, dissolved, self.document, name)
            self.assertRaises(NotAllowed, may_dissolve, self.document, ("a",), name)
        for opens in ((), ("c",), ("f", "a"), ("a", "d", "f"), ("z",)):
            for name in ("a", "z", "f", "b"):
                self.assertRaises(NotAllowed, may_exchange, self.document, opens, name)
                self.assertRaises(NotAllowed, may_dissolve, self.document, opens, name)

    def test_may_exchange(self):
        def may(opens, *layers):
            return may_exchange((1, 1, layers), opens, "a")
        clear = ((CLEAR,),)
        self.assertIs(may(("a",), paint("a"), paint("b")), False)
        self.assertIs(may(("a",), paint("a"), paint("b", OFF)), True)
        self.assertIs(may(("a",), paint("a"), paint("b", LOOK, clear)), True)
        self.assertIs(may(("a",), paint("a"), group("b")), True)
        self.assertIs(may(("a",), paint("a"), tone("b")), True)
        self.assertIs(may(("a",), paint("a"), tone("b", LOOK, ((5,) * 16,) + TABLES[1:])), False)
        # The open layers may be those that are exchanged, which then stand in another order.
        self.assertIs(may(("a", "b"), paint("a"), paint("b")), False)
        self.assertIs(may(("a", "b"), paint("a", OFF), paint("b")), True)
        self.assertIs(may(("a", "b"), paint("a"), paint("b", (1, "plain", 0, ()))), True)
        self.assertIs(may(("c",), paint("a"), paint("b"), paint("c")), True)
        self.assertIs(may(("c",), paint("a"), paint("b", LOOK, ((BLUE,),)), paint("c")), False)

    def test_may_dissolve(self):
        def may(look, *layers):
            return may_dissolve((1, 1, (paint("low"), ("group", "g", look, layers))), ("low",), "g")
        self.assertIs(may(LOOK), True)
        self.assertIs(may(LOOK, paint("b")), True)
        self.assertIs(may(OFF, paint("b")), False)
        self.assertIs(may(OFF, paint("b", OFF)), True)
        self.assertIs(may(LOOK, paint("b", (1, "times", 15, ()))), False)
        self.assertIs(may(LOOK, tone("b", LOOK, ((5,) * 16,) + TABLES[1:])), False)

    def test_plain_reading(self):
        answers = []
        for _, document, opens in opened_documents(174, 70):
            for item in all_layers(document[2]):
                name = item[1]
                for call, change in ((may_exchange, exchanged_above), (may_dissolve, dissolved)):
                    try:
                        other = change(document, name)
                    except (Missing, NotAllowed):
                        continue
                    check_document(other)
                    self.assertEqual(sorted(set(names_of(document)) - set(names_of(other))), [name] * (change is dissolved))
                    wanted = not any(self.differ(document, other, opens, point) for point in points_of(*document[:2]))
                    answer = call(document, opens, name)
                    answers.append((call.__name__, answer))
                    if len(opens) == 1:
                        self.assertIs(answer, wanted)
                    elif answer:
                        self.assertTrue(wanted)
        for call in ("may_exchange", "may_dissolve"):
            self.assertGreater(answers.count((call, True)), 5)
            self.assertGreater(answers.count((call, False)), 4)

    def differ(self, document, other, opens, point):
        """As plain_differ, where the open layers may stand in another order."""
        back = tuple(name for name in names_of(other) if name in opens)
        for pixels in grey_fillings(opens):
            turned = tuple(pixels[opens.index(name)] for name in back)
            if pixel_seen(document, opens, point, pixels) != pixel_seen(other, back, point, turned):
                return True
        return False


class JoinTests(unittest.TestCase):
    def test_plain_reading_and_theorem(self):
        maker, joined = Maker(175), 0
        for k in range(200):
            wide, high = maker.one_of(((1, 1), (2, 1)))
            looks = [(1, maker.one_of(("plain", "plain", maker.one_of(MODES))), maker.one_of((15, 15, 0, 9)), maker.mask(wide, high))
                     for _ in range(2)]
            pair = tuple(paint(name, look, maker.picture(wide, high)) for name, look in zip(("a", "b"), looks))
            document = (wide, high, (tone("low"), group("g", *pair, tone("c"))))
            picture = over_all(blank(wide, high), pair)
            wanted = all(
                plain_over(((pixel,) * wide,) * high, pair) == plain_over(((pixel,) * wide,) * high, (paint("p", LOOK, picture),))
                for pixel in GREYS
            )
            if not wanted:
                self.assertRaises(Missing, joined_above, document, "a")
                continue
            joined += 1
            made = joined_above(document, "a")
            self.assertEqual(made, (wide, high, (tone("low"), group("g", paint("a", LOOK, picture), tone("c")))))
            self.assertEqual(seen(made), seen(document))
            for _ in range(20):
                below = maker.picture(wide, high)
                self.assertEqual(over_all(below, pair), over_all(below, (paint("a", LOOK, picture),)))
        self.assertGreater(joined, 40)
        self.assertLess(joined, 160)

    def test_examples(self):
        red, blue = paint("a", LOOK, ((RED,),)), paint("b", LOOK, ((BLUE,),))
        self.assertEqual(joined_above((1, 1, (red, blue)), "a"), (1, 1, (paint("a", LOOK, ((BLUE,),)),)))
        half = (1, "plain", 8, ())
        self.assertEqual(joined_above((1, 1, (red, paint("b", half, ((BLUE,),)))), "a")[2][0][3], (((7, 0, 8, 15),),))
        # Above a layer that does not cover, a mode shows what is below both.
        times = (1, "times", 15, ())
        self.assertRaises(Missing, joined_above, (1, 1, (paint("a", LOOK, ((CLEAR,),)), paint("b", times, ((BLUE,),)))), "a")
        # Rounding forbids what looks right.
        thin = (((9, 9, 9, 3),),)
        self.assertRaises(Missing, joined_above, (1, 1, (paint("a", LOOK, thin), paint("b", half, thin))), "a")

    def test_one_point_that_forbids_it(self):
        clear = (1, "times", 15, ())
        low, top = paint("a", LOOK, ((RED, CLEAR),)), paint("b", clear, ((BLUE, BLUE),))
        self.assertRaises(Missing, joined_above, (2, 1, (low, top)), "a")
        low = paint("a", LOOK, ((RED, RED),))
        self.assertEqual(joined_above((2, 1, (low, top)), "a")[2][0][3], (((0, 0, 0, 15),) * 2,))

    def test_only_paint_layers_that_are_shown(self):
        red = paint("a", LOOK, ((RED,),))
        for upper in (paint("b", OFF, ((BLUE,),)), tone("b"), group("b"), ("group", "b", OFF, ())):
            self.assertRaises(NotAllowed, joined_above, (1, 1, (red, upper)), "a")
        for lower in (paint("a", OFF, ((BLUE,),)), tone("a"), group("a", red[:1] + ("x",) + red[2:])):
            self.assertRaises(NotAllowed, joined_above, (1, 1, (lower, paint("b"))), "a")
        self.assertRaises(NotAllowed, joined_above, (1, 1, (paint("a", OFF), paint("b", OFF))), "a")

    def test_layers_in_other_groups_are_not_above(self):
        document = (1, 1, (group("g", paint("a")), paint("b")))
        self.assertRaises(Missing, joined_above, document, "a")
        self.assertRaises(Missing, joined_above, document, "b")
        self.assertRaises(NotAllowed, joined_above, document, "g")


if __name__ == "__main__":
    unittest.main()
