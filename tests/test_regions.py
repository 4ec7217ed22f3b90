"""[2.1] and [2.2]: sides, runs, regions and their sets."""

import unittest

from paintershouse.errors import NotAllowed
from paintershouse.pictures import flipped, points_of, turned
from paintershouse.regions import (
    both, check_region, check_sides, either, flipped_region, has, less, moved, others, points_in,
    region_of, size_in, turned_region,
)
from tests.making import Maker, all_point_sets, plain_region

WRONG_SIDES = [(0, 1), (1, 0), (25, 1), (1, 25), (-1, 3), (0, 0), (25, 25)]
WRONG_REGIONS = [
    # Rows and columns that are out of range.
    ((-1, 0, 0),), ((24, 0, 0),), ((0, -1, 0),), ((0, 24, 24),), ((0, 0, 24),), ((0, 25, 30),),
    # A last one that is less than the first one.
    ((0, 1, 0),), ((3, 5, 4),),
    # Runs that touch, overlap, turn round or come twice.
    ((0, 0, 1), (0, 2, 3)), ((0, 0, 2), (0, 2, 3)), ((0, 0, 5), (0, 2, 3)), ((0, 4, 5), (0, 0, 1)),
    ((1, 0, 0), (0, 0, 0)), ((0, 0, 0), (0, 0, 0)), ((0, 0, 1), (1, 0, 0), (0, 3, 3)), ((2, 3, 3), (2, 1, 1)),
    # A good beginning does not help.
    ((0, 0, 0), (0, 2, 2), (5, 1, 24)),
]
GOOD_REGIONS = [
    (), ((0, 0, 0),), ((23, 23, 23),), ((0, 0, 23),), ((0, 0, 0), (0, 2, 2)), ((0, 5, 9), (1, 0, 0)),
    ((3, 0, 1), (3, 3, 4), (3, 6, 23), (23, 0, 23)), ((0, 0, 23), (1, 0, 23)),
]


def made_sets(sides, seed):
    maker = Maker(seed)
    wide, high = sides
    for percent in (0, 10, 40, 60, 90, 100):
        yield maker.points(wide, high, percent), maker.points(wide, high, 50)


class RegionTests(unittest.TestCase):
    def test_check_sides(self):
        for sides in ((1, 1), (24, 24), (1, 24), (24, 1), (3, 7)):
            self.assertIsNone(check_sides(sides))
        for sides in WRONG_SIDES:
            self.assertRaises(NotAllowed, check_sides, sides)

    def test_check_region(self):
        for region in GOOD_REGIONS:
            self.assertIsNone(check_region(region))
        for region in WRONG_REGIONS:
            with self.subTest(region=region):
                self.assertRaises(NotAllowed, check_region, region)

    def test_region_of(self):
        self.assertEqual(region_of([]), ())
        self.assertEqual(region_of([(1, 0), (0, 0)]), ((0, 0, 1),))
        self.assertEqual(region_of([(2, 1), (0, 1), (2, 1), (0, 0), (0, 1)]), ((0, 0, 0), (1, 0, 0), (1, 2, 2)))
        self.assertEqual(region_of([(23, 0), (0, 1)]), ((0, 23, 23), (1, 0, 0)))
        self.assertEqual(region_of(points_of(24, 24)), tuple((y, 0, 23) for y in range(24)))

    def test_region_of_wrong_points(self):
        for point in ((-1, 0), (0, -1), (24, 0), (0, 24), (100, 100)):
            self.assertRaises(NotAllowed, region_of, [point])
            self.assertRaises(NotAllowed, region_of, [(0, 0), point, (1, 1)])

    def test_a_set_of_points_is_just_one_region(self):
        seen = set()
        for points in all_point_sets(4, 3):
            region = region_of(sorted(points, reverse=True) + sorted(points))
            self.assertEqual(region, plain_region(points))
            self.assertIsNone(check_region(region))
            seen.add(region)
            self.assertEqual(points_in(region), sorted(points, key=lambda point: (point[1], point[0])))
            self.assertEqual(size_in(region), len(points))
        self.assertEqual(len(seen), 2 ** 12)

    def test_has(self):
        region = ((0, 0, 2), (0, 4, 4), (3, 1, 5))
        inside = {(0, 0), (1, 0), (2, 0), (4, 0)} | {(x, 3) for x in range(1, 6)}
        for y in range(-2, 30):
            for x in range(-2, 30):
                self.assertIs(has(region, (x, y)), (x, y) in inside)
        self.assertIs(has((), (0, 0)), False)

    def test_errors_of_functions_with_one_region(self):
        for region in WRONG_REGIONS:
            self.assertRaises(NotAllowed, points_in, region)
            self.assertRaises(NotAllowed, size_in, region)
            self.assertRaises(NotAllowed, has, region, (0, 0))


class SetsTests(unittest.TestCase):
    def test_both_either_less(self):
        for first, second in made_sets((24, 24), 1):
            one, other = plain_region(first), plain_region(second)
            self.assertEqual(both(one, other), plain_region(first & second))
            self.assertEqual(either(one, other), plain_region(first | second))
            self.assertEqual(less(one, other), plain_region(first - second))
            self.assertEqual(less(other, one), plain_region(second - first))
            self.assertEqual((both(one, ()), either(one, ()), less(one, ()), less((), one)), ((), one, one, ()))

    def test_touching_runs_are_put_together(self):
        self.assertEqual(either(((0, 0, 1),), ((0, 2, 3),)), ((0, 0, 3),))
        self.assertEqual(either(((0, 0, 1), (0, 4, 5)), ((0, 2, 3),)), ((0, 0, 5),))

    def test_others(self):
        for sides in ((1, 1), (24, 24), (5, 3), (3, 24)):
            for points, _ in made_sets(sides, 2):
                self.assertEqual(others(sides, plain_region(points)), plain_region(set(points_of(*sides)) - points))

    def test_moved(self):
        for wide, high in ((6, 4), (24, 24), (1, 1)):
            for points, _ in made_sets((wide, high), 3):
                for dx, dy in ((0, 0), (1, 0), (-2, 3), (5, -1), (23, 23), (-24, 0), (10 ** 12, -5)):
                    wanted = {(x + dx, y + dy) for x, y in points} & set(points_of(wide, high))
                    self.assertEqual(moved((wide, high), plain_region(points), dx, dy), plain_region(wanted))

    def test_flipped_and_turned(self):
        for wide, high in ((1, 1), (5, 3), (2, 24), (24, 24)):
            for points, _ in made_sets((wide, high), 4):
                region = plain_region(points)
                wanted = {(wide - 1 - x, y) for x, y in points}
                self.assertEqual(flipped_region((wide, high), region), plain_region(wanted))
                wanted = {(high - 1 - y, x) for x, y in points}
                self.assertEqual(turned_region((wide, high), region), plain_region(wanted))
                self.assertIsNone(check_region(turned_region((wide, high), region)))

    def test_a_region_goes_with_the_points_of_a_picture(self):
        black = (0, 0, 0, 15)
        for points, _ in made_sets((5, 3), 5):
            picture = tuple(tuple(black if (x, y) in points else (0, 0, 0, 0) for x in range(5)) for y in range(3))
            for change, region in (
                (flipped, flipped_region((5, 3), plain_region(points))),
                (turned, turned_region((5, 3), plain_region(points))),
            ):
                rows = change(picture)
                seen = {(x, y) for y, row in enumerate(rows) for x, pixel in enumerate(row) if pixel == black}
                self.assertEqual(region, plain_region(seen))


class SetsErrorsTests(unittest.TestCase):
    def test_two_regions(self):
        for call in (both, either, less):
            for region in WRONG_REGIONS:
                self.assertRaises(NotAllowed, call, region, ())
                self.assertRaises(NotAllowed, call, (), region)

    def test_sides_and_regions(self):
        for call in (
            others, flipped_region, turned_region, lambda sides, region: moved(sides, region, 0, 0),
        ):
            for sides in WRONG_SIDES:
                self.assertRaises(NotAllowed, call, sides, ())
            for region in WRONG_REGIONS:
                self.assertRaises(NotAllowed, call, (24, 24), region)
            for sides, region in (
                ((2, 2), ((0, 0, 2),)), ((2, 2), ((2, 0, 0),)), ((23, 23), ((0, 23, 23),)), ((1, 1), ((0, 1, 1),)),
                ((3, 5), ((3, 0, 3),)), ((24, 5), ((0, 0, 0), (5, 0, 0))),
            ):
                self.assertRaises(NotAllowed, call, sides, region)
            self.assertIs(type(call((2, 2), ((0, 0, 1), (1, 0, 1)))), tuple)


if __name__ == "__main__":
    unittest.main()
