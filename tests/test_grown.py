"""[2.6]: regions that are grown, shrunk, opened and closed."""

import unittest

from paintershouse.errors import NotAllowed
from paintershouse.grown import check_stencil, closed, grown, opened, shrunk
from paintershouse.pictures import points_of
from paintershouse.regions import points_in
from tests.making import Maker, all_point_sets, plain_region
from tests.test_regions import WRONG_REGIONS, WRONG_SIDES

CROSS = ((-1, 0), (0, -1), (0, 0), (0, 1), (1, 0))
STENCILS = [
    (), ((0, 0),), ((1, 0),), ((-2, 3),), CROSS, ((-1, 0), (1, 0)), ((-4, -4), (4, 4)), ((0, 1), (2, 0)),
    ((-4, 4), (0, 0), (1, 1)),
]
WRONG_STENCILS = [
    ((5, 0),), ((0, 5),), ((-5, 0),), ((0, -5),), ((0, 0), (0, 0)), ((0, 1), (0, 0)), ((1, 0), (0, 1)),
    ((0, 0), (1, 0), (0, 1)), ((0, 0), (1, 0), (1, 0)), ((-4, -4), (4, 5)),
]


def plain_grown(sides, points, stencil):
    inside = set(points_of(*sides))
    return {(x + dx, y + dy) for x, y in points for dx, dy in stencil} & inside


def plain_shrunk(sides, points, stencil):
    inside = points_of(*sides)
    return {
        (x, y) for x, y in inside
        if all((x + dx, y + dy) in points for dx, dy in stencil if (x + dx, y + dy) in inside)
    }


def made_cases():
    """Triples of sides, a set of points within them, and a stencil."""
    maker = Maker(26)
    for k, sides in enumerate([(1, 1), (3, 3), (5, 4), (2, 9), (8, 8), (1, 24)] * 4):
        for percent in (0, 30, 60, 85, 100):
            points = maker.points(*sides, percent)
            yield sides, points, STENCILS[(k + percent) % len(STENCILS)]
            yield sides, points, maker.stencil(maker.number(1, 4), 30, k % 2 == 0)
    yield (24, 24), maker.points(24, 24, 70), maker.stencil(4, 20, True)


class StencilTests(unittest.TestCase):
    def test_check_stencil(self):
        for stencil in STENCILS:
            self.assertIsNone(check_stencil(stencil))
        everything = tuple((dx, dy) for dx in range(-4, 5) for dy in range(-4, 5))
        self.assertIsNone(check_stencil(everything))
        for stencil in WRONG_STENCILS:
            with self.subTest(stencil=stencil):
                self.assertRaises(NotAllowed, check_stencil, stencil)


class GrownTests(unittest.TestCase):
    def test_without_pairs(self):
        region = ((0, 0, 1),)
        self.assertEqual(grown((2, 2), region, ()), ())
        self.assertEqual(shrunk((2, 2), region, ()), ((0, 0, 1), (1, 0, 1)))

    def test_without_points(self):
        for stencil in STENCILS[1:5]:
            self.assertEqual(grown((6, 6), (), stencil), ())
        self.assertEqual(shrunk((2, 2), (), CROSS), ())

    def test_outside_of_the_sides_nothing_is_wanted(self):
        full = ((0, 0, 2), (1, 0, 2))
        self.assertEqual(shrunk((3, 2), full, CROSS), full)
        self.assertEqual(shrunk((3, 2), (), ((4, 0),)), full)
        self.assertEqual(grown((3, 2), full, ((4, 0),)), ())

    def test_a_stencil_without_the_middle_moves(self):
        self.assertEqual(grown((4, 1), ((0, 1, 1),), ((1, 0),)), ((0, 2, 2),))
        self.assertEqual(shrunk((4, 1), ((0, 1, 1),), ((1, 0),)), ((0, 0, 0), (0, 3, 3)))

    def test_plain_reading(self):
        for sides, points, stencil in made_cases():
            region = plain_region(points)
            more, fewer = plain_grown(sides, points, stencil), plain_shrunk(sides, points, stencil)
            self.assertEqual(grown(sides, region, stencil), plain_region(more))
            self.assertEqual(shrunk(sides, region, stencil), plain_region(fewer))
            self.assertEqual(opened(sides, region, stencil), plain_region(plain_grown(sides, fewer, stencil)))
            self.assertEqual(closed(sides, region, stencil), plain_region(plain_shrunk(sides, more, stencil)))


class TheoremTests(unittest.TestCase):
    """The theorem of [2.6]."""

    def test_grown_is_within_just_if_within_shrunk(self):
        regions = [(points, plain_region(points)) for points in all_point_sets(3, 2)]
        answers = set()
        for stencil in STENCILS:
            more = [set(points_in(grown((3, 2), region, stencil))) for _, region in regions]
            fewer = [set(points_in(shrunk((3, 2), region, stencil))) for _, region in regions]
            for k, (one, _) in enumerate(regions):
                for j, (other, _) in enumerate(regions):
                    self.assertEqual(more[k] <= other, one <= fewer[j])
                    answers.add(more[k] <= other)
        self.assertEqual(answers, {True, False})

    def test_made_pairs_of_regions(self):
        maker = Maker(62)
        for sides, points, stencil in made_cases():
            other = maker.points(*sides, 80) | (points if maker.number(0, 1) else set())
            more = set(points_in(grown(sides, plain_region(points), stencil)))
            fewer = set(points_in(shrunk(sides, plain_region(other), stencil)))
            self.assertEqual(more <= other, points <= fewer)

    def test_opened_is_within_and_closed_around(self):
        for sides, points, stencil in made_cases():
            region = plain_region(points)
            less, more = opened(sides, region, stencil), closed(sides, region, stencil)
            self.assertLessEqual(set(points_in(less)), points)
            self.assertLessEqual(points, set(points_in(more)))
            self.assertEqual(opened(sides, less, stencil), less)
            self.assertEqual(closed(sides, more, stencil), more)


class ErrorsTests(unittest.TestCase):
    def test_sides_regions_and_stencils(self):
        for call in (grown, shrunk, opened, closed):
            for sides in WRONG_SIDES:
                self.assertRaises(NotAllowed, call, sides, (), CROSS)
            for region in WRONG_REGIONS:
                self.assertRaises(NotAllowed, call, (24, 24), region, CROSS)
            for sides, region in (((2, 2), ((0, 0, 2),)), ((2, 2), ((2, 0, 0),)), ((23, 24), ((5, 23, 23),))):
                self.assertRaises(NotAllowed, call, sides, region, CROSS)
            for stencil in WRONG_STENCILS:
                self.assertRaises(NotAllowed, call, (3, 3), (), stencil)
                self.assertRaises(NotAllowed, call, (3, 3), ((0, 0, 2),), stencil)


if __name__ == "__main__":
    unittest.main()
