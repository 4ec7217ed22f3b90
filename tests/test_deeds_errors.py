"""[3.2], [3.3] and the interface: what is no deed, no row of deeds, and cannot be done."""

import unittest

from paintershouse.deeds import check_deed, check_row, done, done_all
from paintershouse.errors import NotAllowed
from tests.test_regions import GOOD_REGIONS, WRONG_REGIONS
from tests.test_strokes import GOOD_PATHS, WRONG_BRUSHES, WRONG_PATHS

RED, CLEAR = (15, 0, 0, 15), (0, 0, 0, 0)
DOT = ((0, 0, 0),)
KEEP = tuple(range(16))
TABLES = (KEEP,) * 4
BRUSH = ("round", 1)
SQUARE = ((RED, CLEAR), (CLEAR, RED))
WIDE = ((RED, CLEAR),)
MODES = ("plain", "darker", "lighter", "times", "screen", "apart")

GOOD = {
    "fill": ("fill", DOT, RED, "plain", 15),
    "erase": ("erase", DOT, 15),
    "tone": ("tone", DOT, TABLES),
    "stroke": ("stroke", ((0, 0),), BRUSH, RED, "plain", 15),
    "move": ("move", 1, 0),
    "flip": ("flip",),
    "fall": ("fall",),
    "turn": ("turn",),
    "copy": ("copy", DOT, 1, 0),
    "mean": ("mean", DOT, 1),
    "swell": ("swell", DOT, 1),
    "flood": ("flood", (0, 0), RED, "plain", 15, 0),
}
# Where the parts of the kinds stand in each deed.
PLACES = {
    "region": [("fill", 1), ("erase", 1), ("tone", 1), ("copy", 1), ("mean", 1), ("swell", 1)],
    "pixel": [("fill", 2), ("stroke", 3), ("flood", 2)],
    "mode": [("fill", 3), ("stroke", 4), ("flood", 3)],
    "level": [("fill", 4), ("erase", 2), ("stroke", 5), ("flood", 4), ("flood", 5)],
    "tables": [("tone", 2)],
    "path": [("stroke", 1)],
    "brush": [("stroke", 2)],
    "shift": [("move", 1), ("move", 2)],
    "any integer": [("copy", 2), ("copy", 3)],
    "reach": [("mean", 2), ("swell", 2)],
    "start": [("flood", 1)],
}
GOOD_PARTS = {
    "region": GOOD_REGIONS,
    "pixel": [CLEAR, RED, (15, 15, 15, 1), (0, 0, 0, 15)],
    "mode": MODES,
    "level": [0, 1, 15],
    "tables": [TABLES, ((0,) * 16,) * 4, ((15,) * 16,) * 4],
    "path": GOOD_PATHS,
    "brush": [("round", 0), ("square", 0), ("round", 3), ("square", 3)],
    "shift": [-24, -1, 0, 24],
    "any integer": [-25, 0, 25, 10 ** 9, -10 ** 9],
    "reach": [1, 2, 3],
    "start": [(0, 0), (23, 23), (0, 23)],
}
WRONG_PARTS = {
    "region": WRONG_REGIONS + [((0, 0),), ((0, 0, 0, 0),), ((),), (KEEP,) * 4, ((1, 1), (2, 2)), DOT + ((1,),)],
    "pixel": [
        (), (0, 0), (1, 2, 3), (1, 2, 3, 4, 5), (1, 0, 0, 0), (0, 0, 1, 0), (16, 0, 0, 15), (0, -1, 0, 15),
        (0, 0, 0, 16), (0, 0, 0, -1), KEEP,
    ],
    "mode": ["", "Plain", "round", "square", "fill", "time", "plain "],
    "level": [-1, 16, 24, -24, 10 ** 9],
    "tables": [
        (), (KEEP,) * 3, (KEEP,) * 5, DOT, (KEEP, KEEP, KEEP, KEEP[:15]), (KEEP + (0,),) + (KEEP,) * 3,
        (KEEP, KEEP, KEEP, KEEP[:15] + (16,)), (KEEP, (-1,) + KEEP[1:], KEEP, KEEP), ((),) * 4,
    ],
    "path": WRONG_PATHS + [DOT],
    "brush": WRONG_BRUSHES + [("plain", 1), ("stroke", 0)],
    "shift": [-25, 25, 48, -10 ** 9],
    "any integer": [],
    "reach": [0, -1, 4, 15],
    "start": [(-1, 0), (0, -1), (24, 0), (0, 24), (48, 48), (), (0,), (0, 0, 0), RED],
}


def with_part(deed, at, part):
    return deed[:at] + (part,) + deed[at + 1:]


def wrong_deeds():
    """Yields what is no deed, although it begins with a text."""
    for name, places in PLACES.items():
        for word, at in places:
            for part in WRONG_PARTS[name]:
                yield with_part(GOOD[word], at, part)
    for word, deed in GOOD.items():
        if len(deed) > 1:
            yield deed[:-1]
            yield deed[:1]
            yield deed[:1] + deed[2:]
        for more in (0, DOT, "plain", RED, (), deed):
            yield deed + (more,)
        for wrong in (word.upper(), word + "s", "", " " + word, "paint", "round", "plain"):
            yield (wrong,) + deed[1:]
    for word in GOOD:
        for other, deed in GOOD.items():
            if len(GOOD[word]) != len(deed):
                yield (word,) + deed[1:]
    # Parts of another deed, of the kinds that are told.
    yield ("mean", DOT, 15)
    yield ("tone", DOT, DOT)
    yield ("stroke", DOT, BRUSH, RED, "plain", 15)
    yield ("stroke", ((0, 0),), ("plain", 1), RED, "plain", 15)
    yield ("flood", RED, RED, "plain", 15, 0)
    yield ("flood", (0, 0), (0, 0), "plain", 15, 0)


class DeedsTests(unittest.TestCase):
    def test_good_deeds(self):
        for deed in GOOD.values():
            self.assertIsNone(check_deed(deed))
        for name, places in PLACES.items():
            for word, at in places:
                for part in GOOD_PARTS[name]:
                    self.assertIsNone(check_deed(with_part(GOOD[word], at, part)))

    def test_each_part_of_each_deed_is_tried(self):
        tried = sorted(place for places in PLACES.values() for place in places)
        self.assertEqual(tried, sorted((word, k) for word, deed in GOOD.items() for k in range(1, len(deed))))

    def test_wrong_deeds(self):
        for deed in wrong_deeds():
            with self.subTest(deed=deed):
                self.assertRaises(NotAllowed, check_deed, deed)
                self.assertRaises(NotAllowed, check_row, (deed,))
                self.assertRaises(NotAllowed, done, SQUARE, deed)
                self.assertRaises(NotAllowed, done_all, SQUARE, (deed,))


class RowsTests(unittest.TestCase):
    def test_good_rows(self):
        self.assertIsNone(check_row(()))
        self.assertIsNone(check_row(tuple(GOOD.values())))
        for many in (1, 39, 40):
            self.assertIsNone(check_row((("flip",),) * many))

    def test_too_many_deeds(self):
        for many in (41, 60):
            for deed in GOOD.values():
                self.assertRaises(NotAllowed, check_row, (deed,) * many)
                self.assertRaises(NotAllowed, done_all, SQUARE, (deed,) * many)

    def test_one_wrong_deed_is_enough(self):
        for deed in (("flop",), ("erase", DOT, 16), ("flip", 1), ()):
            for row in ((deed,) + (("flip",),) * 39, (("flip",),) * 39 + (deed,), (("flip",), deed, ("fall",))):
                self.assertRaises(NotAllowed, check_row, row)
                self.assertRaises(NotAllowed, done_all, SQUARE, row)


class TurnsTests(unittest.TestCase):
    def test_only_a_square_is_turned(self):
        for picture in (WIDE, ((RED,), (CLEAR,)), ((RED,) * 24,) * 23, ((RED,) * 23,) * 24):
            self.assertIsNone(check_deed(("turn",)))
            self.assertRaises(NotAllowed, done, picture, ("turn",))
            self.assertRaises(NotAllowed, done_all, picture, (("turn",),))
            self.assertRaises(NotAllowed, done_all, picture, (("flip",), ("fall",), ("turn",), ("flip",)))
        for picture in (((RED,),), SQUARE, ((RED,) * 24,) * 24):
            self.assertEqual(done_all(picture, (("turn",),) * 4), picture)

    def test_a_row_that_cannot_be_done_changes_nothing(self):
        handed = (WIDE, (GOOD["fill"], ("turn",)))
        self.assertRaises(NotAllowed, done_all, *handed)
        self.assertEqual(handed, (((RED, CLEAR),), (("fill", ((0, 0, 0),), RED, "plain", 15), ("turn",))))


if __name__ == "__main__":
    unittest.main()
