"""[2.8] and [2.9]: outlines, areas, and regions told by outlines."""

import unittest

from paintershouse.errors import NotAllowed
from paintershouse.outlines import area_of, from_outlines, length_of, outlines
from paintershouse.parts import filled, holes, parts
from paintershouse.regions import size_in
from tests.making import Maker, all_point_sets, plain_region
from tests.test_regions import WRONG_REGIONS

RING = ((0, 0, 2), (1, 0, 0), (1, 2, 2), (2, 0, 2))
RING_OUTLINES = (((0, 0), (3, 0), (3, 3), (0, 3)), ((1, 1), (1, 2), (2, 2), (2, 1)))
FULL = tuple((y, 0, 23) for y in range(24))
RIGHT_OF = {(1, 0): (0, 1), (0, 1): (-1, 0), (-1, 0): (0, -1), (0, -1): (1, 0)}


def plain_edges(points):
    """Each edge as a pair of its corner and its heading, with the point at the right hand."""
    found = set()
    for x, y in points:
        for corner, heading, beside in (
            ((x, y), (1, 0), (x, y - 1)), ((x + 1, y), (0, 1), (x + 1, y)),
            ((x + 1, y + 1), (-1, 0), (x, y + 1)), ((x, y + 1), (0, -1), (x - 1, y)),
        ):
            if beside not in points:
                found.add((corner, heading))
    return found


def edges_of(loop):
    """The edges of a loop, one after another."""
    found = []
    for (x, y), (to_x, to_y) in zip(loop, loop[1:] + loop[:1]):
        many = max(abs(to_x - x), abs(to_y - y))
        heading = ((to_x - x) // many, (to_y - y) // many)
        found += [((x + k * heading[0], y + k * heading[1]), heading) for k in range(many)]
    return found


def rings_in_rings(side):
    """Points of rings, each one in the one ahead."""
    return {(x, y) for y in range(side) for x in range(side) if min(x, y, side - 1 - x, side - 1 - y) % 2 == 0}


def made_sets():
    yield from all_point_sets(4, 3)
    yield from all_point_sets(2, 5)
    maker = Maker(28)
    for percent in (10, 30, 50, 65, 80, 95):
        for sides in ((5, 5), (8, 4), (1, 24), (24, 1), (12, 12)):
            yield maker.points(*sides, percent)
    yield maker.points(24, 24, 50)
    yield maker.points(24, 24, 75)
    yield {(x, y) for x in range(24) for y in range(24) if (x + y) % 2}
    for side in (1, 3, 5, 8, 24):
        yield rings_in_rings(side)


class OutlinesTests(unittest.TestCase):
    def test_answers(self):
        self.assertEqual(outlines(()), ())
        self.assertEqual(outlines(((5, 3, 3),)), (((3, 5), (4, 5), (4, 6), (3, 6)),))
        self.assertEqual(outlines(RING), RING_OUTLINES)
        self.assertEqual(outlines(FULL), (((0, 0), (24, 0), (24, 24), (0, 24)),))
        self.assertEqual(outlines(((0, 0, 0), (1, 0, 1))), (((0, 0), (1, 0), (1, 1), (2, 1), (2, 2), (0, 2)),))

    def test_points_that_touch_at_a_corner_alone(self):
        self.assertEqual(
            outlines(((0, 0, 0), (1, 1, 1))),
            (((0, 0), (1, 0), (1, 1), (0, 1)), ((1, 1), (2, 1), (2, 2), (1, 2))),
        )
        self.assertEqual(
            outlines(((0, 1, 1), (1, 0, 0))),
            (((1, 0), (2, 0), (2, 1), (1, 1)), ((0, 1), (1, 1), (1, 2), (0, 2))),
        )

    def test_a_loop_may_come_to_a_corner_twice(self):
        self.assertEqual(
            outlines(((0, 0, 2), (1, 0, 0), (1, 2, 2), (2, 0, 1))),
            (((0, 0), (3, 0), (3, 2), (2, 2), (2, 1), (1, 1), (1, 2), (2, 2), (2, 3), (0, 3)),),
        )

    def test_holes_that_touch_at_a_corner_have_one_loop(self):
        region = ((0, 0, 3), (1, 0, 0), (1, 2, 3), (2, 0, 1), (2, 3, 3), (3, 0, 3))
        self.assertEqual(
            outlines(region)[1:], (((1, 1), (1, 2), (2, 2), (2, 3), (3, 3), (3, 2), (2, 2), (2, 1)),),
        )

    def test_the_order_of_loops(self):
        loops = outlines(((0, 5, 5), (1, 0, 0), (1, 2, 2), (2, 0, 0)))
        self.assertEqual([loop[0] for loop in loops], [(5, 0), (0, 1), (2, 1)])

    def test_rings_in_rings(self):
        loops = outlines(plain_region(rings_in_rings(7)))
        self.assertEqual([loop[0] for loop in loops], [(k, k) for k in range(4)])
        self.assertEqual([area_of(loop) for loop in loops], [49, -25, 9, -1])

    def test_plain_reading(self):
        for points in made_sets():
            loops = outlines(plain_region(points))
            told = [edge for loop in loops for edge in edges_of(loop)]
            edges = plain_edges(points)
            # Each edge is on one loop, once, with the region at the right hand.
            self.assertEqual(len(told), len(edges))
            self.assertEqual(set(told), edges)
            self.assertEqual(length_of(plain_region(points)), len(edges))
            for loop in loops:
                self.check_loop(loop, edges)
            firsts = [(loop[0][1], loop[0][0], loop) for loop in loops]
            self.assertEqual(firsts, sorted(firsts))
            self.assertEqual(len({loop[0] for loop in loops}), len(loops))

    def check_loop(self, loop, edges):
        """It begins at its first corner, turns at all its corners, and to the right where it could."""
        first = loop[0]
        self.assertEqual(first, min(loop, key=lambda corner: (corner[1], corner[0])))
        self.assertEqual(loop.count(first), 1)
        walked = edges_of(loop)
        turns = []
        for (corner, heading), (next_corner, next_heading) in zip(walked, walked[1:] + walked[:1]):
            self.assertEqual((corner[0] + heading[0], corner[1] + heading[1]), next_corner)
            if heading != next_heading:
                turns.append(next_corner)
            if (next_corner, RIGHT_OF[heading]) in edges:
                self.assertEqual(next_heading, RIGHT_OF[heading])
        self.assertEqual(turns[-1:] + turns[:-1], list(loop))

    def test_errors(self):
        for region in WRONG_REGIONS:
            self.assertRaises(NotAllowed, outlines, region)
            self.assertRaises(NotAllowed, length_of, region)


class AreaTests(unittest.TestCase):
    """The theorem of [2.9]."""

    def test_answers(self):
        self.assertEqual([area_of(loop) for loop in RING_OUTLINES], [9, -1])
        self.assertEqual(area_of(((0, 0), (24, 0), (24, 24), (0, 24))), 576)
        self.assertEqual(area_of(((5, 7), (6, 7), (6, 8), (5, 8))), 1)

    def test_half_the_sum(self):
        for points in made_sets():
            for loop in outlines(plain_region(points)):
                double = 0
                for k in range(len(loop)):
                    (x, y), (next_x, next_y) = loop[k], loop[(k + 1) % len(loop)]
                    double += x * next_y - next_x * y
                self.assertEqual(2 * area_of(loop), double)

    def test_areas_sum_up_to_the_size(self):
        for points in made_sets():
            loops = outlines(plain_region(points))
            self.assertEqual(sum(area_of(loop) for loop in loops), len(points))

    def test_parts_are_above_0_and_holes_below(self):
        for points in made_sets():
            region = plain_region(points)
            areas = [area_of(loop) for loop in outlines(region)]
            around_parts = [size_in(filled(part, 4)) for part in parts(region, 4)]
            around_holes = [-size_in(filled(hole, 8)) for hole in holes(region, 4)]
            self.assertEqual(sorted(areas), sorted(around_parts + around_holes))

    def test_the_number_of_edges_up_to_a_point(self):
        for points in made_sets():
            many = {}
            for loop in outlines(plain_region(points)):
                for (x, y), (_, down) in edges_of(loop):
                    if down:
                        place = (x, min(y, y + down))
                        many[place] = many.get(place, 0) + 1
            for y in range(24):
                passed = 0
                for x in range(24):
                    passed += many.get((x, y), 0)
                    self.assertEqual(passed % 2 == 1, (x, y) in points)


class FromOutlinesTests(unittest.TestCase):
    def test_back_again(self):
        for points in made_sets():
            region = plain_region(points)
            self.assertEqual(from_outlines(outlines(region)), region)

    def test_wrong_loops(self):
        big, hole = RING_OUTLINES
        for loops in (
            ((),), (big, ()), (((0, 0),),), (((0, 0), (3, 0)),), (((0, 0), (3, 0), (3, 3)),),
            # Another first corner, another direction, another order, loops too few and too many.
            (big[1:] + big[:1], hole), (big[::-1],), (hole, big), (hole,), (big, big), (big, hole, hole),
            (big, big, hole), (big, hole[::-1]), (big, hole[1:] + hole[:1]),
            # A corner that is no turn, a line aslant, a corner that comes twice.
            (((0, 0), (1, 0), (3, 0), (3, 3), (0, 3)),), (((0, 0), (3, 0), (0, 3)),),
            (((0, 0), (0, 0), (3, 0), (3, 3), (0, 3)),),
            # There and back, and a line there and back beside a good loop.
            (((0, 0), (5, 0)),), (((0, 0), (0, 5)),), (big, ((5, 5), (5, 5))),
            # Two loops for what has one, one for what has two.
            (((0, 0), (1, 0), (1, 1), (0, 1)), ((1, 0), (2, 0), (2, 1), (1, 1))),
            (((0, 0), (1, 0), (1, 1), (2, 1), (2, 2), (1, 2), (1, 1), (0, 1)),),
        ):
            with self.subTest(loops=loops):
                self.assertRaises(NotAllowed, from_outlines, loops)

    def test_out_of_range(self):
        self.assertEqual(from_outlines((((23, 23), (24, 23), (24, 24), (23, 24)),)), ((23, 23, 23),))
        for left, top, right, bottom in (
            (-1, 0, 3, 3), (0, -1, 3, 3), (0, 0, 25, 3), (0, 0, 3, 25), (24, 0, 25, 1), (0, 24, 1, 25),
            (-10 ** 12, -10 ** 12, 10 ** 12, 10 ** 12), (30, 30, 31, 31),
        ):
            loop = ((left, top), (right, top), (right, bottom), (left, bottom))
            self.assertRaises(NotAllowed, from_outlines, (loop,))

    def test_changed_loops(self):
        """Changed loops are refused, or are those of another region."""
        maker = Maker(82)
        refused = taken = 0
        for points in [points for points in made_sets() if points][5::60]:
            loops = outlines(plain_region(points))
            for _ in range(40):
                k = maker.number(0, len(loops) - 1)
                at = maker.number(0, len(loops[k]) - 1)
                x, y = loops[k][at]
                corner = (x + maker.number(-1, 1), y + maker.number(-1, 1))
                changed = loops[:k] + (loops[k][:at] + (corner,) + loops[k][at + 1:],) + loops[k + 1:]
                try:
                    region = from_outlines(changed)
                except NotAllowed:
                    refused += 1
                    self.assertNotEqual(changed, loops)
                else:
                    taken += 1
                    self.assertEqual(outlines(region), changed)
        self.assertGreater(min(refused, taken), 50)


if __name__ == "__main__":
    unittest.main()
