"""[8.8]: regions to which rows of any deeds keep, and grounds, with the theorem."""

import itertools
import unittest

from paintershouse.deeds import done_all
from paintershouse.errors import NotAllowed
from paintershouse.footprints import footprint, touched
from paintershouse.grounds import ground, keeps_to
from paintershouse.regions import less, points_in, region_of
from tests.making import Maker, all_point_sets, plain_region
from tests.test_deeds_errors import GOOD, wrong_deeds
from tests.test_regions import WRONG_SIDES

RED = (15, 0, 0, 15)
SIDES = [(1, 1), (2, 1), (1, 3), (2, 2), (3, 2), (4, 1)]
WORDS = ("fill", "erase", "tone", "stroke", "move", "flip", "fall", "copy", "mean", "swell", "flood", "copy", "mean", "swell")
FULL = ((0, 0, 2), (1, 0, 2))


def small_region(maker, wide, high):
    return plain_region(maker.points(wide, high, 35 if wide * high < 7 else 7))


def made_rows(seed, many, most):
    maker = Maker(seed)
    for k in range(many):
        sides = SIDES[k % len(SIDES)]
        yield maker, sides, made_row(maker, sides, maker.number(0, most))


def made_row(maker, sides, many):
    """A row of any deeds, of which many touch few points."""
    words = WORDS + (("turn",) if sides[0] == sides[1] else ())
    deeds = []
    for _ in range(many):
        deed = maker.deed(maker.one_of(words), *sides)
        if deed[0] in ("fill", "erase", "tone", "copy", "mean", "swell"):
            deed = (deed[0], small_region(maker, *sides)) + deed[2:]
        elif deed[0] in ("move", "flip", "fall", "turn", "flood") and maker.number(0, 3):
            deed = ("move", 0, 0) if maker.number(0, 1) else ("flood", (20, 20), RED, "plain", 15, 3)
        deeds.append(deed)
    return tuple(deeds)


def plain_keeps(sides, deeds, region):
    """The words of [8.8], by what is told of footprints."""
    there = set(points_in(region))
    for deed in deeds:
        for point in points_in(touched(sides, (deed,))):
            if point not in there:
                return False
            if not set(points_in(footprint(sides, (deed,), point))) <= there:
                return False
    return True


class GroundTests(unittest.TestCase):
    def test_all_regions(self):
        for _, sides, deeds in made_rows(261, 60, 3):
            kept = []
            for points in all_point_sets(*sides):
                region = plain_region(points)
                keeps = plain_keeps(sides, deeds, region)
                self.assertIs(keeps_to(sides, deeds, region), keeps)
                if keeps:
                    kept.append(points)
            least = set.intersection(*kept)
            self.assertIn(least, kept)
            self.assertEqual(ground(sides, deeds), plain_region(least))

    def test_a_point_less_than_the_ground(self):
        checked = 0
        for _, sides, deeds in made_rows(262, 120, 4):
            found = ground(sides, deeds)
            self.assertIs(keeps_to(sides, deeds, found), True)
            for point in points_in(found):
                checked += 1
                self.assertIs(keeps_to(sides, deeds, less(found, region_of([point]))), False)
        self.assertGreater(checked, 100)

    def test_each_deed(self):
        paint = (RED, "plain", 9)
        wanted = [
            (("fill", ((0, 0, 0),)) + paint, ((0, 0, 0),)), (("erase", ((0, 1, 1), (5, 0, 9)), 4), ((0, 1, 1),)),
            (("erase", ((5, 0, 9),), 4), ()), (("stroke", ((0, 0), (9, 0)), ("round", 0)) + paint, ((0, 0, 2),)),
            (("move", 0, 0), ()), (("move", 1, 0), FULL), (("move", 24, 24), FULL), (("flip",), FULL), (("fall",), FULL),
            (("copy", ((0, 0, 0),), 2, 0), ((0, 0, 0), (0, 2, 2))), (("copy", ((0, 0, 0),), 3, 0), ()),
            (("copy", ((0, 0, 0),), 0, 0), ((0, 0, 0),)), (("copy", ((5, 5, 5),), -5, -5), ()),
            (("mean", ((0, 0, 0),), 1), ((0, 0, 1), (1, 0, 1))), (("swell", ((1, 2, 2),), 3), FULL),
            (("mean", ((9, 9, 9),), 3), ()), (("flood", (0, 0)) + paint + (0,), FULL), (("flood", (3, 0)) + paint + (0,), ()),
        ]
        for deed, region in wanted:
            self.assertEqual(ground((3, 2), (deed,)), region, deed)
        self.assertEqual(ground((2, 2), (("turn",),)), ((0, 0, 1), (1, 0, 1)))

    def test_rows(self):
        self.assertEqual(ground((3, 2), ()), ())
        self.assertIs(keeps_to((3, 2), (), ()), True)
        soft, hard = ("mean", ((0, 1, 1),), 1), ("erase", ((0, 3, 3),), 4)
        self.assertEqual(ground((4, 1), (soft, hard)), ((0, 0, 3),))
        # Each deed counts alone: what the first one takes does not matter to the second one.
        self.assertEqual(ground((5, 1), (("copy", ((0, 0, 0),), 1, 0), ("copy", ((0, 1, 1),), 3, 0))), ((0, 0, 1), (0, 4, 4)))
        self.assertIs(keeps_to((4, 1), (soft,), ((0, 0, 2),)), True)
        self.assertIs(keeps_to((4, 1), (soft,), ((0, 0, 3),)), True)
        self.assertIs(keeps_to((4, 1), (soft,), ((0, 0, 1),)), False)

    def test_great_rows(self):
        full = tuple((y, 0, 23) for y in range(24))
        self.assertEqual(ground((24, 24), (("mean", full, 3),) * 40), full)
        self.assertIs(keeps_to((24, 24), (("swell", ((0, 0, 0),), 1),) * 40, ((0, 0, 1), (1, 0, 1))), True)


class TheoremTests(unittest.TestCase):
    def test_rows_whose_grounds_have_no_point_in_common(self):
        checked = 0
        maker = Maker(263)
        for k in range(1500):
            sides = ((6, 2), (5, 5), (9, 1))[k % 3]
            deeds = made_row(maker, sides, maker.number(1, 2))
            other = made_row(maker, sides, maker.number(1, 2))
            one, rest = set(points_in(ground(sides, deeds))), set(points_in(ground(sides, other)))
            if one & rest or not one or not rest:
                continue
            checked += 1
            picture = maker.picture(*sides)
            many = len(deeds) + len(other)
            wanted = done_all(picture, deeds + other)
            for places in itertools.combinations(range(many), len(other)):
                rows = [list(deeds), list(other)]
                row = tuple(rows[1 if k in places else 0].pop(0) for k in range(many))
                self.assertEqual(done_all(picture, row), wanted)
        self.assertGreater(checked, 60)


class WrongValuesTests(unittest.TestCase):
    def refused(self, sides, deeds, region=()):
        if region == ():
            self.assertRaises(NotAllowed, ground, sides, deeds)
        self.assertRaises(NotAllowed, keeps_to, sides, deeds, region)

    def test_sides_and_rows(self):
        for sides in WRONG_SIDES:
            self.refused(sides, ())
        for deed in wrong_deeds():
            self.refused((2, 1), (deed,))
        self.refused((2, 1), (("turn",),))
        self.refused((2, 1), (("flip",),) * 41)
        for word in GOOD:
            ground((2, 2), (GOOD[word],))

    def test_regions(self):
        for region in (((0, 0, 2),), ((1, 0, 0),), ((0, 1, 0),), ((0, 0, 0), (0, 1, 1)), ((0, -1, 0),), ((24, 0, 0),)):
            self.refused((2, 1), (), region)
            self.refused((2, 1), (("flip",),), region)
        self.assertIs(keeps_to((2, 1), (("flip",),), ((0, 0, 1),)), True)


if __name__ == "__main__":
    unittest.main()
