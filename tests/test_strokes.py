"""[3.1]: paths, lines, brushes, and the regions of strokes."""

import unittest
from fractions import Fraction
from math import floor

from paintershouse.errors import NotAllowed
from paintershouse.strokes import check_brush, check_path, line_points, stroke_region
from tests.making import Maker, plain_region

GOOD_PATHS = [
    ((0, 0),), ((-24, -24),), ((48, 48),), ((-24, 48), (48, -24)), ((5, 5),) * 20, tuple((k, -k) for k in range(20)),
]
WRONG_PATHS = [
    (), ((5, 5),) * 21, ((-25, 0),), ((0, -25),), ((49, 0),), ((0, 49),), ((0, 0), (3, 3), (49, 49)),
    ((0, 0), (-10 ** 9, 0)), ((),), ((1,),), ((1, 2, 3),), ((0, 0), (1, 2, 3)), ((0, 0), ()),
]
WRONG_BRUSHES = [
    ("round", -1), ("round", 4), ("square", -1), ("square", 4), ("", 1), ("Round", 1), ("flat", 0), ("rounds", 2),
]


def plain_line(first, last):
    """The steps of a line, rounded half up."""
    (x, y), (to_x, to_y) = first, last
    n = max(abs(to_x - x), abs(to_y - y))
    if n == 0:
        return [first]
    half = Fraction(1, 2)
    return [
        (x + floor(Fraction(k * (to_x - x), n) + half), y + floor(Fraction(k * (to_y - y), n) + half))
        for k in range(n + 1)
    ]


def plain_stroke(path, shape, reach):
    """Each point of the greatest sides that is near enough to a point of a line."""
    on_lines = {path[0]}
    for first, last in zip(path, path[1:]):
        on_lines.update(plain_line(first, last))
    covered = set()
    for x in range(24):
        for y in range(24):
            for a, b in on_lines:
                dx, dy = abs(x - a), abs(y - b)
                near = max(dx, dy) <= reach if shape == "square" else dx ** 2 + dy ** 2 <= reach ** 2
                if near:
                    covered.add((x, y))
                    break
    return plain_region(covered)


class ChecksTests(unittest.TestCase):
    def test_paths(self):
        for path in GOOD_PATHS:
            self.assertIsNone(check_path(path))
        for path in WRONG_PATHS:
            with self.subTest(path=path):
                self.assertRaises(NotAllowed, check_path, path)

    def test_brushes(self):
        for shape in ("round", "square"):
            for reach in (0, 1, 2, 3):
                self.assertIsNone(check_brush((shape, reach)))
        for brush in WRONG_BRUSHES:
            with self.subTest(brush=brush):
                self.assertRaises(NotAllowed, check_brush, brush)


class LinesTests(unittest.TestCase):
    def test_answers(self):
        self.assertEqual(line_points((4, -7), (4, -7)), [(4, -7)])
        self.assertEqual(line_points((0, 0), (2, 1)), [(0, 0), (1, 1), (2, 1)])
        self.assertEqual(line_points((2, 1), (0, 0)), [(2, 1), (1, 1), (0, 0)])
        self.assertEqual(line_points((0, 0), (-2, -1)), [(0, 0), (-1, 0), (-2, -1)])
        self.assertEqual(line_points((0, 0), (-1, 4)), [(0, 0), (0, 1), (0, 2), (-1, 3), (-1, 4)])
        self.assertEqual(line_points((5, 5), (5, 3)), [(5, 5), (5, 4), (5, 3)])

    def test_points_of_any_integers(self):
        far = 10 ** 15
        self.assertEqual(line_points((far, -far), (far + 2, -far)), [(far, -far), (far + 1, -far), (far + 2, -far)])
        self.assertEqual(len(line_points((-300, 0), (700, 50))), 1001)

    def test_plain_reading(self):
        for w in range(-7, 8):
            for h in range(-7, 8):
                for x, y in ((0, 0), (3, -5), (-24, 48)):
                    line = line_points((x, y), (x + w, y + h))
                    self.assertEqual(line, plain_line((x, y), (x + w, y + h)))
                    self.assertEqual((line[0], line[-1]), ((x, y), (x + w, y + h)))
        maker = Maker(31)
        for _ in range(300):
            first, last = [(maker.number(-24, 48), maker.number(-24, 48)) for _ in range(2)]
            self.assertEqual(line_points(first, last), plain_line(first, last))


class StrokesTests(unittest.TestCase):
    def test_brushes_at_a_point(self):
        at = ((5, 5),)
        self.assertEqual(stroke_region(at, ("round", 0)), ((5, 5, 5),))
        self.assertEqual(stroke_region(at, ("square", 0)), ((5, 5, 5),))
        self.assertEqual(stroke_region(at, ("round", 1)), ((4, 5, 5), (5, 4, 6), (6, 5, 5)))
        self.assertEqual(stroke_region(at, ("square", 1)), ((4, 4, 6), (5, 4, 6), (6, 4, 6)))
        self.assertEqual(
            stroke_region(at, ("round", 3)),
            ((2, 5, 5), (3, 3, 7), (4, 3, 7), (5, 2, 8), (6, 3, 7), (7, 3, 7), (8, 5, 5)),
        )
        self.assertEqual(stroke_region(at, ("square", 3)), tuple((y, 2, 8) for y in range(2, 9)))

    def test_points_beyond_the_sides(self):
        self.assertEqual(stroke_region(((-1, 0),), ("round", 0)), ())
        self.assertEqual(stroke_region(((-1, -1),), ("round", 1)), ())
        self.assertEqual(stroke_region(((-1, -1),), ("square", 1)), ((0, 0, 0),))
        self.assertEqual(stroke_region(((26, 24),), ("square", 3)), ((21, 23, 23), (22, 23, 23), (23, 23, 23)))
        self.assertEqual(stroke_region(((-24, -24), (48, 48)), ("square", 0)), tuple((k, k, k) for k in range(24)))
        self.assertEqual(stroke_region(((48, -24), (48, 48)), ("square", 3)), ())

    def test_lines_go_from_point_to_point(self):
        self.assertEqual(stroke_region(((0, 0), (3, 0), (3, 2)), ("round", 0)), ((0, 0, 3), (1, 3, 3), (2, 3, 3)))
        self.assertEqual(stroke_region(((2, 2), (2, 2), (2, 2)), ("round", 0)), ((2, 2, 2),))

    def test_plain_reading(self):
        maker = Maker(13)
        for k in range(48):
            many = (1, 2, 3, 20)[k % 4]
            low, high = ((0, 23), (-24, 48), (-3, 26))[k % 3]
            path = tuple((maker.number(low, high), maker.number(low, high)) for _ in range(many))
            shape, reach = ("round", "square")[k // 4 % 2], maker.number(0, 3)
            self.assertEqual(stroke_region(path, (shape, reach)), plain_stroke(path, shape, reach))

    def test_errors(self):
        for path in WRONG_PATHS:
            self.assertRaises(NotAllowed, stroke_region, path, ("round", 1))
        for brush in WRONG_BRUSHES:
            self.assertRaises(NotAllowed, stroke_region, ((0, 0),), brush)


if __name__ == "__main__":
    unittest.main()
