"""[1.2], [1.6] and [1.7]: pictures, one above another one, flipped, turned, cut out."""

import unittest

from paintershouse.errors import NotAllowed
from paintershouse.pictures import (
    blank, check_picture, check_size, cut_out, differing, flipped, laid, pixel_at, points_of,
    size_of, turned,
)
from paintershouse.pixels import CLEAR, MODES, blended
from tests.making import Maker

RED, BLUE = (15, 0, 0, 15), (0, 0, 15, 15)
WRONG_SIDES = [(0, 1), (1, 0), (25, 1), (1, 25), (-1, 3), (3, -1), (0, 0), (25, 25), (1000, 1)]
GOOD_SIDES = [(1, 1), (24, 1), (1, 24), (24, 24), (5, 3)]


def made_pictures():
    maker = Maker(16)
    return [maker.picture(wide, high) for wide, high in GOOD_SIDES + [(2, 7), (4, 4)]]


class PicturesTests(unittest.TestCase):
    def test_check_size(self):
        for wide, high in GOOD_SIDES:
            self.assertIsNone(check_size(wide, high))
        for wide, high in WRONG_SIDES:
            self.assertRaises(NotAllowed, check_size, wide, high)

    def test_good_pictures(self):
        for picture in made_pictures():
            self.assertIsNone(check_picture(picture))

    def test_wrong_pictures(self):
        wrong = [
            (), ((),), ((), ()), ((RED,), ()), ((), (RED,)), ((RED, RED), (RED,)), ((RED,), (RED, RED)),
            ((RED,) * 25,), ((RED,),) * 25, ((RED, (1, 2, 3)),), (((1, 2, 3, 0),),), (((),),),
            ((RED, RED), (RED, (0, 0, 0, 16))), (((-1, 0, 0, 5),),),
        ]
        for picture in wrong:
            with self.subTest(picture=picture):
                self.assertRaises(NotAllowed, check_picture, picture)

    def test_size_of(self):
        for picture, sides in zip(made_pictures(), GOOD_SIDES):
            self.assertEqual(size_of(picture), sides)
            self.assertIs(type(size_of(picture)), tuple)

    def test_blank(self):
        self.assertEqual(blank(2, 1), ((CLEAR, CLEAR),))
        self.assertEqual(blank(1, 2), ((CLEAR,), (CLEAR,)))
        for wide, high in GOOD_SIDES:
            self.assertEqual(size_of(blank(wide, high)), (wide, high))
            self.assertIsNone(check_picture(blank(wide, high)))
        for wide, high in WRONG_SIDES:
            self.assertRaises(NotAllowed, blank, wide, high)

    def test_pixel_at(self):
        picture = ((RED, BLUE, CLEAR), (BLUE, RED, RED))
        for y in range(2):
            for x in range(3):
                self.assertEqual(pixel_at(picture, (x, y)), picture[y][x])
        for point in ((-1, 0), (0, -1), (3, 0), (0, 2), (-3, -2), (2, 2), (10 ** 20, 0), (0, -10 ** 20)):
            self.assertEqual(pixel_at(picture, point), CLEAR)

    def test_points_of(self):
        self.assertEqual(points_of(3, 2), [(0, 0), (1, 0), (2, 0), (0, 1), (1, 1), (2, 1)])
        self.assertEqual(points_of(1, 1), [(0, 0)])
        self.assertEqual(len(points_of(24, 24)), 576)


class LaidTests(unittest.TestCase):
    def test_at_each_point(self):
        maker = Maker(6)
        for mode in MODES:
            for level in (0, 1, 8, 15):
                below, above = maker.picture(5, 3), maker.picture(5, 3)
                seen = laid(mode, below, above, level)
                self.assertEqual(size_of(seen), (5, 3))
                for x, y in points_of(5, 3):
                    self.assertEqual(seen[y][x], blended(mode, below[y][x], above[y][x], level))

    def test_errors(self):
        one, wide, high = blank(1, 1), blank(2, 1), blank(1, 2)
        for mode, below, above, level in (
            ("none", one, one, 5), ("", one, one, 5), ("plain", one, one, -1), ("plain", one, one, 16),
            ("plain", one, wide, 5), ("plain", wide, high, 5), ("plain", high, one, 5), ("no", wide, high, 16),
        ):
            self.assertRaises(NotAllowed, laid, mode, below, above, level)


class ChangedPicturesTests(unittest.TestCase):
    def test_flipped(self):
        for picture in made_pictures():
            wide, high = size_of(picture)
            image = flipped(picture)
            self.assertEqual(size_of(image), (wide, high))
            for x, y in points_of(wide, high):
                self.assertEqual(image[y][wide - 1 - x], picture[y][x])
            self.assertEqual(flipped(image), picture)

    def test_turned(self):
        for picture in made_pictures():
            wide, high = size_of(picture)
            image = turned(picture)
            self.assertEqual(size_of(image), (high, wide))
            for x, y in points_of(wide, high):
                self.assertEqual(image[x][high - 1 - y], picture[y][x])
            self.assertEqual(turned(turned(turned(image))), picture)

    def test_the_left_column_becomes_the_top_row(self):
        self.assertEqual(turned(((RED, CLEAR), (BLUE, CLEAR), (CLEAR, CLEAR))), ((CLEAR, BLUE, RED), (CLEAR,) * 3))

    def test_cut_out(self):
        for picture in made_pictures():
            for left, top, wide, high in (
                (0, 0, 1, 1), (1, 1, 3, 2), (-2, -1, 4, 5), (23, 23, 2, 2), (-30, 4, 24, 24), (2, 0, 1, 24),
                (0, 50, 2, 2),
            ):
                cut = cut_out(picture, left, top, wide, high)
                self.assertEqual(size_of(cut), (wide, high))
                for i, j in points_of(wide, high):
                    self.assertEqual(cut[j][i], pixel_at(picture, (left + i, top + j)))
            self.assertEqual(cut_out(picture, 0, 0, *size_of(picture)), picture)

    def test_cut_out_errors(self):
        for wide, high in WRONG_SIDES:
            self.assertRaises(NotAllowed, cut_out, blank(2, 2), 0, 0, wide, high)

    def test_differing(self):
        maker = Maker(7)
        first = maker.picture(4, 3)
        rows = [list(row) for row in first]
        changed = [(3, 0), (0, 1), (2, 1), (0, 2)]
        for x, y in changed:
            rows[y][x] = (9, 9, 9, 14) if first[y][x] != (9, 9, 9, 14) else CLEAR
        second = tuple(tuple(row) for row in rows)
        self.assertEqual(differing(first, second), changed)
        self.assertEqual(differing(second, first), changed)
        self.assertEqual(differing(first, first), [])

    def test_differing_errors(self):
        for one, other in ((blank(1, 2), blank(2, 1)), (blank(2, 2), blank(2, 3)), (blank(3, 2), blank(2, 2))):
            self.assertRaises(NotAllowed, differing, one, other)


if __name__ == "__main__":
    unittest.main()
