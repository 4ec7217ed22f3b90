"""[2.3] to [2.5]: parts, holes, windows, paths and walls."""

import itertools
import unittest

from paintershouse.errors import NotAllowed
from paintershouse.parts import filled, holes, join_paper, judge_join, parts, parts_less_holes
from paintershouse.regions import points_in
from tests.making import Maker, all_point_sets, plain_region
from tests.test_regions import WRONG_REGIONS

RING = ((0, 0, 2), (1, 0, 0), (1, 2, 2), (2, 0, 2))
ACROSS = ((0, 0, 0), (1, 1, 1))


def are_neighbours(one, other, ways):
    """The words of [2.3]."""
    dx, dy = abs(one[0] - other[0]), abs(one[1] - other[1])
    return (dx, dy) in ((0, 1), (1, 0)) or (ways == 8 and (dx, dy) == (1, 1))


def plain_parts(points, ways):
    """Puts sets together that have neighbours, until there are none; in the order of first points."""
    found = []
    for point in points:
        near = [part for part in found if any(are_neighbours(point, other, ways) for other in part)]
        found = [part for part in found if part not in near] + [{point}.union(*near)]
    return sorted(found, key=lambda part: min((y, x) for x, y in part))


def plain_holes(points, sides, ways):
    """The words of [2.3], with a frame of points around the sides in the place of all others."""
    wide, high = sides
    free = {(x, y) for y in range(-1, high + 1) for x in range(-1, wide + 1)} - points
    return [part for part in plain_parts(free, 12 - ways) if (-1, -1) not in part]


def plain_windows(points, sides):
    """The numbers a, c and d of [2.4]."""
    one = three = across = 0
    for y in range(-1, sides[1]):
        for x in range(-1, sides[0]):
            window = [(x, y) in points, (x + 1, y) in points, (x, y + 1) in points, (x + 1, y + 1) in points]
            one += sum(window) == 1
            three += sum(window) == 3
            across += window in ([True, False, False, True], [False, True, True, False])
    return one, three, across


def made_sets():
    """Sets of points with their sides: all small ones, and greater ones of many kinds."""
    for points in all_point_sets(3, 3):
        yield points, (3, 3)
    maker = Maker(23)
    for percent in (20, 35, 45, 50, 55, 60, 70, 80, 90):
        for sides in ((4, 4), (7, 5), (9, 10), (1, 12)):
            yield maker.points(*sides, percent), sides
    for sides, percent in (((24, 24), 60), ((24, 3), 75), ((24, 24), 100)):
        yield maker.points(*sides, percent), sides


class PartsAndHolesTests(unittest.TestCase):
    def test_answers(self):
        self.assertEqual((parts((), 4), holes((), 8), filled((), 4)), ([], [], ()))
        self.assertEqual((parts(RING, 4), parts(RING, 8)), ([RING], [RING]))
        self.assertEqual((holes(RING, 4), holes(RING, 8)), ([((1, 1, 1),)], [((1, 1, 1),)]))
        self.assertEqual(parts(ACROSS, 4), [((0, 0, 0),), ((1, 1, 1),)])
        self.assertEqual(parts(ACROSS, 8), [ACROSS])

    def test_holes_go_by_the_other_ways(self):
        diamond = ((0, 1, 1), (1, 0, 0), (1, 2, 2), (2, 1, 1))
        self.assertEqual((holes(diamond, 4), holes(diamond, 8)), ([], [((1, 1, 1),)]))
        self.assertEqual(filled(diamond, 8), ((0, 1, 1), (1, 0, 2), (2, 1, 1)))
        self.assertEqual(filled(diamond, 4), diamond)

    def test_a_hole_may_have_a_part_in_it(self):
        target = ((0, 0, 4), (1, 0, 0), (1, 4, 4), (2, 0, 0), (2, 2, 2), (2, 4, 4), (3, 0, 0), (3, 4, 4), (4, 0, 4))
        self.assertEqual(len(parts(target, 8)), 2)
        self.assertEqual(holes(target, 4), [((1, 1, 3), (2, 1, 1), (2, 3, 3), (3, 1, 3))])
        self.assertEqual(filled(target, 4), tuple((y, 0, 4) for y in range(5)))
        self.assertEqual(parts_less_holes(target, 4), 1)

    def test_the_edge_of_the_sides_closes_nothing(self):
        for region in (((0, 1, 1), (1, 0, 1)), ((0, 0, 23), (2, 0, 23)), ((22, 22, 23), (23, 22, 22))):
            self.assertEqual(holes(region, 4), [])
            self.assertEqual(holes(region, 8), [])
        frame = ((0, 0, 23),) + tuple((y, x, x) for y in range(1, 23) for x in (0, 23)) + ((23, 0, 23),)
        self.assertEqual(holes(frame, 4), [tuple((y, 1, 22) for y in range(1, 23))])

    def test_order_by_first_points(self):
        two = ((0, 5, 5), (1, 0, 0), (1, 5, 5), (2, 0, 5))
        self.assertEqual(parts(two, 4), [two])
        three = ((0, 4, 4), (1, 0, 0), (1, 2, 2), (2, 0, 0))
        self.assertEqual(parts(three, 4), [((0, 4, 4),), ((1, 0, 0), (2, 0, 0)), ((1, 2, 2),)])

    def test_plain_reading(self):
        for points, sides in made_sets():
            region = plain_region(points)
            for ways in (4, 8):
                wanted = [plain_region(part) for part in plain_parts(points, ways)]
                self.assertEqual(parts(region, ways), wanted)
                lacking = plain_holes(points, sides, ways)
                self.assertEqual(holes(region, ways), [plain_region(part) for part in lacking])
                self.assertEqual(filled(region, ways), plain_region(points.union(*lacking)))


class WindowsTests(unittest.TestCase):
    """The theorem of [2.4]."""

    def test_the_number_of_parts_less_that_of_holes(self):
        for points, sides in made_sets():
            region = plain_region(points)
            a, c, d = plain_windows(points, sides)
            for ways, told in ((4, a - c + 2 * d), (8, a - c - 2 * d)):
                number = len(plain_parts(points, ways)) - len(plain_holes(points, sides, ways))
                self.assertEqual(told, 4 * number)
                self.assertEqual(parts_less_holes(region, ways), number)

    def test_all_regions_of_twelve_points(self):
        for points in all_point_sets(4, 3):
            region = plain_region(points)
            for ways in (4, 8):
                number = len(parts(region, ways)) - len(holes(region, ways))
                self.assertEqual(parts_less_holes(region, ways), number)

    def test_answers(self):
        self.assertEqual(parts_less_holes((), 4), 0)
        self.assertEqual((parts_less_holes(RING, 4), parts_less_holes(RING, 8)), (0, 0))
        self.assertEqual((parts_less_holes(ACROSS, 4), parts_less_holes(ACROSS, 8)), (2, 1))


class JoinPapersTests(unittest.TestCase):
    def check_paper(self, region, ways, first, second, joined):
        paper = join_paper(region, ways, first, second)
        self.assertIs(type(paper), tuple)
        self.assertEqual(paper[0], "path" if joined else "wall")
        self.assertIs(judge_join(region, ways, first, second, paper), True)
        if joined:
            self.assertEqual((paper[1][0], paper[1][-1]), (first, second))
            for one, other in itertools.pairwise(paper[1]):
                self.assertTrue(are_neighbours(one, other, ways))
            self.assertLessEqual(set(paper[1]), set(points_in(region)))
        else:
            self.assertIn(first, points_in(paper[1]))
            self.assertNotIn(second, points_in(paper[1]))

    def test_papers_of_all_small_regions(self):
        for points in all_point_sets(3, 3):
            region = plain_region(points)
            for ways in (4, 8):
                for part in plain_parts(points, ways):
                    for first in part:
                        for second in points:
                            self.check_paper(region, ways, first, second, second in part)

    def test_papers_of_a_great_region(self):
        spiral = Maker(4).points(24, 24, 62)
        for ways in (4, 8):
            for part in plain_parts(spiral, ways)[:3]:
                for second in sorted(spiral)[::40]:
                    self.check_paper(plain_region(spiral), ways, min(part), second, second in part)

    def test_there_is_no_wall_for_joined_points(self):
        walls = [plain_region(points) for points in all_point_sets(3, 2)]
        for points in all_point_sets(3, 2):
            region = plain_region(points)
            for ways in (4, 8):
                for part in plain_parts(points, ways):
                    for second in points:
                        right = [
                            wall for wall in walls
                            if judge_join(region, ways, min(part), second, ("wall", wall))
                        ]
                        self.assertEqual(right != [], second not in part)
                        for wall in right:
                            self.assertLessEqual(part, set(points_in(wall)))
                            self.assertLessEqual(set(points_in(wall)), points)

    def test_right_and_wrong_paths(self):
        for path, right in (
            (((0, 0), (1, 0), (2, 0)), True), (((0, 0), (1, 0), (0, 0), (1, 0), (2, 0)), True),
            (((0, 0), (0, 1), (0, 2), (1, 2), (2, 2), (2, 1), (2, 0)), True),
            ((), False), (((0, 0),), False), (((2, 0),), False), (((0, 0), (2, 0)), False),
            (((0, 0), (0, 0), (1, 0), (2, 0)), False), (((2, 0), (1, 0), (0, 0)), False),
            (((0, 0), (0, 1), (1, 1), (2, 1), (2, 0)), False), (((1, 0), (2, 0)), False),
            (((0, 0), (1, 0), (2, 0), (2, 1)), False), (((0, 0), (1, 0), (2, 0, 0)), False),
            (((0, 0), (0, -1), (1, -1), (2, -1), (2, 0)), False), (((0, 0, 2),), False), (((0,), (2, 0)), False),
        ):
            with self.subTest(path=path):
                self.assertIs(judge_join(RING, 4, (0, 0), (2, 0), ("path", path)), right)

    def test_ways_of_paths(self):
        path = ("path", ((0, 0), (1, 1)))
        self.assertIs(judge_join(ACROSS, 8, (0, 0), (1, 1), path), True)
        self.assertIs(judge_join(ACROSS, 4, (0, 0), (1, 1), path), False)
        self.assertIs(judge_join(ACROSS, 4, (0, 0), (0, 0), ("path", ((0, 0),))), True)
        self.assertIs(judge_join(ACROSS, 4, (0, 0), (0, 0), ("wall", ((0, 0, 0),))), False)

    def test_right_and_wrong_walls(self):
        region = ((0, 0, 1), (0, 3, 4), (2, 0, 0))
        for wall, right in (
            (((0, 0, 1),), True), (((0, 0, 1), (2, 0, 0)), True), ((), False), (((0, 3, 4),), False),
            (((0, 0, 0),), False), (((0, 0, 1), (0, 3, 3)), False), (((0, 0, 1), (0, 3, 4)), False),
            (((0, 0, 2),), False), (((0, 0, 1), (1, 0, 0)), False), (((0, 0, 0), (0, 1, 1)), False),
            (((2, 0, 0), (0, 0, 1)), False), (((0, 0, 1), (0, 0, 1)), False), (((0, 0),), False),
            (((0, 0, 1, 1),), False), (((0, 0, 1), (30, 0, 0)), False), (((0, 1, 0),), False),
        ):
            with self.subTest(wall=wall):
                self.assertIs(judge_join(region, 4, (0, 0), (3, 0), ("wall", wall)), right)

    def test_ways_of_walls(self):
        wall = ("wall", ((0, 0, 0),))
        self.assertIs(judge_join(ACROSS, 4, (0, 0), (1, 1), wall), True)
        self.assertIs(judge_join(ACROSS, 8, (0, 0), (1, 1), wall), False)

    def test_other_words(self):
        for word in ("", "Path", "paths", "hole"):
            self.assertIs(judge_join(RING, 4, (0, 0), (1, 0), (word, ((0, 0), (1, 0)))), False)
        self.assertIs(judge_join(RING, 4, (0, 0), (1, 0), ("wall", ((0, 0), (1, 0)))), False)


class ErrorsTests(unittest.TestCase):
    def test_regions_and_ways(self):
        for call in (parts, holes, filled, parts_less_holes):
            for region in WRONG_REGIONS:
                self.assertRaises(NotAllowed, call, region, 4)
                self.assertRaises(NotAllowed, call, region, 5)
            for ways in (0, 1, -4, 3, 5, 6, 7, 9, 12, 48):
                self.assertRaises(NotAllowed, call, RING, ways)
                self.assertRaises(NotAllowed, call, (), ways)

    def test_points_of_papers(self):
        def judge(region, ways, first, second):
            return judge_join(region, ways, first, second, ("path", ()))

        for call in (join_paper, judge):
            for region in WRONG_REGIONS:
                self.assertRaises(NotAllowed, call, region, 4, (0, 0), (0, 0))
            for ways in (0, 5, 12):
                self.assertRaises(NotAllowed, call, RING, ways, (0, 0), (0, 1))
            for point in ((1, 1), (3, 0), (-1, 0), (0, -1), (0, 3), (24, 24), (10 ** 9, 0)):
                self.assertRaises(NotAllowed, call, RING, 4, point, (0, 0))
                self.assertRaises(NotAllowed, call, RING, 4, (0, 0), point)


if __name__ == "__main__":
    unittest.main()
