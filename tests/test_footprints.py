"""[4.7]: footprints, what rows touch, and rows that are apart."""

import unittest

from paintershouse.deeds import done, done_all, pointwise_region
from paintershouse.errors import NotAllowed
from paintershouse.footprints import are_apart, footprint, touched
from paintershouse.pictures import differing, pixel_at, points_of
from paintershouse.regions import points_in
from tests.making import Maker, plain_region
from tests.test_deeds_errors import GOOD, wrong_deeds
from tests.test_regions import WRONG_SIDES

RED = (15, 0, 0, 15)
WORDS = ("fill", "erase", "tone", "stroke", "move", "flip", "fall", "turn", "copy", "mean", "swell", "flood")
SIDES = [(1, 1), (3, 2), (4, 1), (1, 5), (3, 3), (5, 4)]


def rows(seed, many):
    maker = Maker(seed)
    for k in range(many):
        sides = SIDES[k % len(SIDES)]
        yield maker, sides, row(maker, sides, maker.number(0, 4))


def row(maker, sides, many, words=WORDS):
    words = [word for word in words if word != "turn" or sides[0] == sides[1]]
    return tuple(maker.deed(maker.one_of(words), *sides) for _ in range(many))


def plain_step(sides, deed, point):
    """The footprint of one deed, by the words of [4.7]."""
    (wide, high), (x, y), word = sides, point, deed[0]
    if word in ("move", "flip", "fall", "turn", "copy"):
        # Where the pixel comes from is seen at a picture in which all pixels are different.
        marked = tuple(tuple((i % 16, i // 16, j, 15) for i in range(wide)) for j in range(high))
        pixel = pixel_at(done(marked, deed), point)
        return {(i, j) for i, j in points_of(wide, high) if marked[j][i] == pixel}
    if word in ("mean", "swell") and point in points_in(deed[1]):
        reach = deed[2]
        return {(i, j) for i, j in points_of(wide, high) if max(abs(i - x), abs(j - y)) <= reach}
    if word == "flood" and deed[1] in points_of(wide, high):
        return set(points_of(wide, high))
    return {point}


def plain_footprint(sides, deeds, points):
    for deed in deeds[::-1]:
        points = {source for point in points for source in plain_step(sides, deed, point)}
    return points


def plain_touched(sides, deeds):
    wide, high = sides
    whole, points = set(points_of(wide, high)), set()
    for deed in deeds:
        word = deed[0]
        if word in ("flip", "fall", "turn") or (word == "move" and deed[1:] != (0, 0)):
            points |= whole
        elif word == "copy":
            points |= {
                (x + deed[2], y + deed[3]) for x, y in points_in(deed[1]) if (x, y) in whole
            } & whole
        elif word == "flood":
            points |= whole if deed[1] in whole else set()
        elif word in ("mean", "swell"):
            points |= set(points_in(deed[1])) & whole
        elif word != "move":
            points |= set(points_in(pointwise_region(deed))) & whole
    return points


def plain_apart(sides, first, second):
    one, other = plain_touched(sides, first), plain_touched(sides, second)
    return not (
        one & other or one & plain_footprint(sides, second, other) or other & plain_footprint(sides, first, one)
    )


class FootprintTests(unittest.TestCase):
    def test_plain_reading(self):
        for _, sides, deeds in rows(131, 120):
            for point in points_of(*sides):
                self.assertEqual(footprint(sides, deeds, point), plain_region(plain_footprint(sides, deeds, {point})))

    def test_what_is_behind_a_row_follows_from_the_footprint(self):
        for maker, sides, deeds in rows(132, 150):
            picture = maker.picture(*sides)
            made = done_all(picture, deeds)
            for point in points_of(*sides):
                kept = points_in(footprint(sides, deeds, point))
                other = maker.picture(*sides)
                other = tuple(
                    tuple(picture[y][x] if (x, y) in kept else other[y][x] for x in range(sides[0]))
                    for y in range(sides[1])
                )
                self.assertEqual(pixel_at(done_all(other, deeds), point), pixel_at(made, point))

    def test_each_deed(self):
        sides, point = (4, 3), (1, 1)
        whole = ((0, 0, 3), (1, 0, 3), (2, 0, 3))
        here = ((1, 1, 1),)
        region = ((1, 1, 1), (5, 5, 9))
        wanted = [
            (("fill", region, RED, "plain", 15), here), (("erase", region, 15), here), (("move", 1, 1), ((0, 0, 0),)),
            (("move", 2, 0), ()), (("move", 0, -1), ((2, 1, 1),)), (("flip",), ((1, 2, 2),)), (("fall",), here),
            (("copy", region, 0, 0), here), (("copy", ((0, 1, 1),), 0, 1), ((0, 1, 1),)),
            (("copy", ((0, 1, 1),), 1, 1), here), (("copy", ((4, 1, 1),), 0, -3), here),
            (("mean", region, 1), ((0, 0, 2), (1, 0, 2), (2, 0, 2))), (("swell", region, 3), whole),
            (("mean", ((1, 2, 2),), 3), here), (("flood", (3, 2), RED, "plain", 15, 0), whole),
            (("flood", (4, 2), RED, "plain", 15, 0), here), (("flood", (0, 3), RED, "plain", 15, 15), here),
        ]
        for deed, region_there in wanted:
            self.assertEqual(footprint(sides, (deed,), point), region_there, deed)
        self.assertEqual(footprint(sides, (), point), here)
        self.assertEqual(footprint((3, 3), (("turn",),), (0, 1)), ((2, 1, 1),))

    def test_points_outside(self):
        for point in ((4, 0), (0, 3), (-1, 0), (0, -1), (24, 24)):
            self.assertRaises(NotAllowed, footprint, (4, 3), (), point)


class TouchedTests(unittest.TestCase):
    def test_plain_reading(self):
        for maker, sides, deeds in rows(133, 150):
            self.assertEqual(touched(sides, deeds), plain_region(plain_touched(sides, deeds)))
            picture = maker.picture(*sides)
            for point in differing(picture, done_all(picture, deeds)):
                self.assertIn(point, points_in(touched(sides, deeds)))

    def test_each_deed(self):
        whole = ((0, 0, 1), (1, 0, 1))
        paint = (RED, "plain", 15)
        wanted = [
            (("move", 0, 0), ()), (("move", 0, 1), whole), (("move", -24, 24), whole), (("flip",), whole),
            (("fall",), whole), (("turn",), whole), (("copy", ((0, 0, 1),), 1, 0), ((0, 1, 1),)),
            (("copy", ((0, 0, 0),), 0, 0), ((0, 0, 0),)), (("copy", ((0, 2, 2),), -1, 0), ()),
            (("mean", ((0, 1, 9),), 2), ((0, 1, 1),)), (("swell", ((2, 0, 0),), 2), ()),
            (("fill", ((1, 0, 5), (9, 0, 0))) + paint, ((1, 0, 1),)), (("erase", (), 3), ()), (("erase", whole, 0), whole),
            (("stroke", ((-3, 0), (9, 0)), ("square", 0)) + paint, ((0, 0, 1),)),
            (("flood", (1, 1)) + paint + (0,), whole), (("flood", (2, 0)) + paint + (15,), ()),
        ]
        for deed, region in wanted:
            self.assertEqual(touched((2, 2), (deed,)), region, deed)
        self.assertEqual(touched((2, 2), ()), ())
        self.assertEqual(touched((2, 2), (("erase", ((0, 0, 0),), 3), ("erase", ((1, 1, 1),), 3))), ((0, 0, 0), (1, 1, 1)))


class ApartTests(unittest.TestCase):
    def test_plain_reading_and_theorem(self):
        apart = 0
        for maker, sides, first in rows(134, 400):
            words = ("erase", "copy", "mean", "swell", "fill", "flood")
            first, second = row(maker, sides, maker.number(0, 2), words), row(maker, sides, maker.number(0, 2), words)
            answer = are_apart(sides, first, second)
            self.assertIs(answer, plain_apart(sides, first, second))
            self.assertIs(are_apart(sides, second, first), answer)
            if answer:
                apart += 1
                for _ in range(3):
                    picture = maker.picture(*sides)
                    self.assertEqual(done_all(picture, first + second), done_all(picture, second + first))
        self.assertGreater(apart, 60)

    def test_examples(self):
        soft, far, near = ("mean", ((0, 1, 1),), 1), ("erase", ((0, 3, 3),), 4), ("erase", ((0, 2, 2),), 4)
        self.assertIs(are_apart((4, 1), (soft,), (far,)), True)
        self.assertIs(are_apart((4, 1), (soft,), (near,)), False)
        self.assertIs(are_apart((4, 1), (near,), (soft,)), False)
        self.assertIs(are_apart((4, 1), (far,), (far,)), False)
        self.assertIs(are_apart((4, 1), (), (("flip",),)), True)
        self.assertIs(are_apart((4, 1), (("move", 0, 0),), (("flip",),)), True)
        # Both only read at the same point.
        self.assertIs(are_apart((4, 1), (("copy", ((0, 0, 0),), 1, 0),), (("copy", ((0, 0, 0),), 2, 0),)), True)


class WrongValuesTests(unittest.TestCase):
    def refused(self, sides, deeds):
        self.assertRaises(NotAllowed, footprint, sides, deeds, (0, 0))
        self.assertRaises(NotAllowed, touched, sides, deeds)
        self.assertRaises(NotAllowed, are_apart, sides, deeds, ())
        self.assertRaises(NotAllowed, are_apart, sides, (), deeds)

    def test_wrong_values(self):
        for sides in WRONG_SIDES:
            self.refused(sides, ())
        for deed in wrong_deeds():
            self.refused((2, 2), (("flip",), deed))
        self.refused((2, 1), (("turn",),))
        self.refused((2, 2), (("flip",),) * 41)

    def test_all_deeds_may_stand_in_a_row(self):
        whole = tuple(deed for deed in GOOD.values())
        self.assertEqual(touched((2, 2), whole), ((0, 0, 1), (1, 0, 1)))
        touched((2, 2), (("turn",),) * 40)
        touched((2, 1), tuple(deed for deed in whole if deed != ("turn",)))


if __name__ == "__main__":
    unittest.main()
