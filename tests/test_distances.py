"""[2.7]: distances, fields, and the gap of two regions."""

import unittest

from paintershouse.distances import field, gap, within
from paintershouse.errors import Missing, NotAllowed
from paintershouse.pictures import points_of
from tests.making import Maker, all_point_sets, plain_region
from tests.test_regions import WRONG_REGIONS, WRONG_SIDES

KINDS = ("rook", "king", "square")
WRONG_KINDS = ("", "Rook", "rooks", "queen", "king ", "squared")
OUTSIDE = [((2, 2), ((0, 0, 2),)), ((2, 2), ((2, 0, 0),)), ((23, 24), ((5, 23, 23),)), ((1, 1), ((0, 1, 1),))]


def plain_distance(one, other, kind):
    """The words of [2.7]."""
    dx, dy = one[0] - other[0], one[1] - other[1]
    return {"rook": abs(dx) + abs(dy), "king": max(abs(dx), abs(dy)), "square": dx * dx + dy * dy}[kind]


def plain_field(sides, points, kind):
    """The distances as they grow: a point has one just if a point of the region is so far and none nearer."""
    wide, high = sides
    rows = []
    for y in range(high):
        row = []
        for x in range(wide):
            row.append(sorted(plain_distance((x, y), point, kind) for point in points)[0] if points else -1)
        rows.append(tuple(row))
    return tuple(rows)


def made_cases():
    maker = Maker(27)
    for sides in ((1, 1), (1, 24), (24, 1), (5, 3), (4, 9), (10, 10)):
        for percent in (0, 5, 40, 100):
            yield sides, maker.points(*sides, percent)
    for points in all_point_sets(3, 2):
        yield (3, 2), points


class FieldTests(unittest.TestCase):
    def test_kinds(self):
        corner = ((0, 0, 0),)
        self.assertEqual(field((3, 2), corner, "rook"), ((0, 1, 2), (1, 2, 3)))
        self.assertEqual(field((3, 2), corner, "king"), ((0, 1, 2), (1, 1, 2)))
        self.assertEqual(field((3, 2), corner, "square"), ((0, 1, 4), (1, 2, 5)))

    def test_the_nearest_point_counts(self):
        self.assertEqual(field((6, 1), ((0, 0, 0), (0, 5, 5)), "rook"), ((0, 1, 2, 2, 1, 0),))
        self.assertEqual(field((1, 1), ((0, 0, 0),), "king"), ((0,),))
        self.assertEqual(field((24, 24), ((0, 0, 0),), "square")[23][23], 2 * 23 * 23)

    def test_a_region_without_points(self):
        for kind in KINDS:
            self.assertEqual(field((3, 2), (), kind), ((-1, -1, -1), (-1, -1, -1)))

    def test_plain_reading(self):
        for sides, points in made_cases():
            for kind in KINDS:
                self.assertEqual(field(sides, plain_region(points), kind), plain_field(sides, points, kind))


class WithinTests(unittest.TestCase):
    def test_plain_reading(self):
        for sides, points in made_cases():
            region = plain_region(points)
            for kind in KINDS:
                rows = plain_field(sides, points, kind)
                for most in (-5, -1, 0, 1, 2, 4, 9, 10 ** 9):
                    wanted = {(x, y) for x, y in points_of(*sides) if points and rows[y][x] <= most}
                    self.assertEqual(within(sides, region, kind, most), plain_region(wanted))

    def test_edges(self):
        ring = ((0, 0, 2), (1, 0, 0), (1, 2, 2), (2, 0, 2))
        self.assertEqual(within((3, 3), ring, "square", 0), ring)
        self.assertEqual(within((3, 3), ring, "square", -1), ())
        self.assertEqual(within((3, 3), ring, "king", 1), ((0, 0, 2), (1, 0, 2), (2, 0, 2)))
        self.assertEqual(within((24, 24), (), "rook", 99), ())


class GapTests(unittest.TestCase):
    def test_plain_reading(self):
        maker = Maker(72)
        for k in range(60):
            first = maker.points(1 + k % 9, 7, 30) | {(maker.number(0, 23), maker.number(0, 23))}
            second = maker.points(8, 1 + k % 5, 40) | {(maker.number(0, 23), maker.number(0, 23))}
            for kind in KINDS:
                ways = [(one, second) for one in first] + [(one, first) for one in second]
                wanted = max(min(plain_distance(one, other, kind) for other in others) for one, others in ways)
                self.assertEqual(gap(plain_region(first), plain_region(second), kind), wanted)
                self.assertEqual(gap(plain_region(second), plain_region(first), kind), wanted)

    def test_both_regions_count(self):
        self.assertEqual(gap(((0, 0, 0),), ((0, 0, 9),), "rook"), 9)
        self.assertEqual(gap(((0, 0, 9),), ((0, 0, 0),), "rook"), 9)
        self.assertEqual(gap(((0, 0, 0),), ((0, 0, 0),), "square"), 0)
        self.assertEqual(gap(((0, 0, 0),), ((23, 23, 23),), "square"), 1058)

    def test_it_is_0_just_for_the_same_region(self):
        regions = [plain_region(points) for points in all_point_sets(3, 2) if points]
        for one in regions:
            for other in regions:
                self.assertEqual(gap(one, other, "king") == 0, one == other)


class ErrorsTests(unittest.TestCase):
    def test_sides_regions_and_kinds(self):
        for call in (field, lambda *told: within(*told, 3)):
            for sides in WRONG_SIDES:
                self.assertRaises(NotAllowed, call, sides, (), "rook")
            for region in WRONG_REGIONS:
                self.assertRaises(NotAllowed, call, (24, 24), region, "rook")
            for sides, region in OUTSIDE:
                self.assertRaises(NotAllowed, call, sides, region, "rook")
            for kind in WRONG_KINDS:
                self.assertRaises(NotAllowed, call, (3, 3), (), kind)
                self.assertRaises(NotAllowed, call, (3, 3), ((0, 0, 2),), kind)

    def test_gap(self):
        dot = ((0, 0, 0),)
        for region in WRONG_REGIONS:
            self.assertRaises(NotAllowed, gap, region, dot, "rook")
            self.assertRaises(NotAllowed, gap, dot, region, "rook")
        for kind in WRONG_KINDS:
            self.assertRaises(NotAllowed, gap, dot, dot, kind)
        for first, second in ((dot, ()), ((), dot), ((), ())):
            self.assertRaises(Missing, gap, first, second, "king")

    def test_the_order_of_errors_of_gap(self):
        for region in WRONG_REGIONS:
            self.assertRaises(NotAllowed, gap, region, (), "rook")
            self.assertRaises(NotAllowed, gap, (), region, "rook")
        for kind in WRONG_KINDS:
            self.assertRaises(NotAllowed, gap, (), (), kind)


if __name__ == "__main__":
    unittest.main()
