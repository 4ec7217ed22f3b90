"""[6.4]: pictures made smaller, and the mean of pixels."""

import unittest

from paintershouse.errors import NotAllowed
from paintershouse.pixels import CLEAR
from paintershouse.smaller import mean_of, smaller
from tests.making import Maker


def plain_mean(pixels):
    """The words of [6.4]."""
    m, covers = len(pixels), sum(pixel[3] for pixel in pixels)
    cover = (covers + m // 2) // m
    if cover == 0:
        return (0, 0, 0, 0)
    colours = []
    for k in range(3):
        total = sum(pixel[k] * pixel[3] for pixel in pixels)
        colours.append((total + covers // 2) // covers)
    return tuple(colours) + (cover,)


def plain_smaller(picture, n):
    blocks = {}
    for y, row in enumerate(picture):
        for x, pixel in enumerate(row):
            blocks.setdefault((x // n, y // n), []).append(pixel)
    wide, high = 1 + max(x for x, _ in blocks), 1 + max(y for _, y in blocks)
    return tuple(tuple(plain_mean(blocks[(x, y)]) for x in range(wide)) for y in range(high))


class MeanTests(unittest.TestCase):
    def test_examples(self):
        self.assertEqual(mean_of([(15, 0, 0, 15), CLEAR]), (15, 0, 0, 8))
        self.assertEqual(mean_of([(10, 0, 0, 3), (0, 10, 0, 6)]), (3, 7, 0, 5))

    def test_one_pixel_is_its_own_mean(self):
        maker = Maker(61)
        for _ in range(50):
            pixel = maker.pixel()
            self.assertEqual(mean_of([pixel]), pixel)
            self.assertEqual(mean_of([pixel] * 7), pixel)

    def test_halves_go_up(self):
        self.assertEqual(mean_of([(0, 0, 0, 1), CLEAR]), (0, 0, 0, 1))
        self.assertEqual(mean_of([(1, 2, 3, 15), (2, 3, 4, 15)]), (2, 3, 4, 15))

    def test_a_cover_that_becomes_0(self):
        self.assertEqual(mean_of([(9, 9, 9, 1), CLEAR, CLEAR]), CLEAR)
        self.assertEqual(mean_of([CLEAR] * 4), CLEAR)

    def test_plain_reading(self):
        maker = Maker(62)
        for _ in range(400):
            pixels = [maker.pixel() for _ in range(maker.number(1, 64))]
            self.assertEqual(mean_of(pixels), plain_mean(pixels))


class SmallerTests(unittest.TestCase):
    def test_by_one(self):
        picture = Maker(63).picture(5, 3)
        self.assertEqual(smaller(picture, 1), picture)

    def test_plain_reading(self):
        maker = Maker(64)
        for wide, high in ((1, 1), (8, 8), (24, 24), (23, 9), (1, 24), (24, 1), (16, 17), (5, 3)):
            picture = maker.picture(wide, high)
            for n in range(1, 9):
                self.assertEqual(smaller(picture, n), plain_smaller(picture, n))

    def test_blocks_that_the_picture_ends_in(self):
        red, blue = (15, 0, 0, 15), (0, 0, 15, 15)
        self.assertEqual(smaller(((red, blue, red),), 2), (((8, 0, 8, 15), red),))
        self.assertEqual(smaller(((red,) * 9,) * 9, 8), ((red, red), (red, red)))
        self.assertEqual(smaller(((red,) * 8,) * 8, 8), ((red,),))

    def test_wrong_numbers(self):
        for n in (0, 9, -1, 100):
            self.assertRaises(NotAllowed, smaller, ((CLEAR,),), n)


if __name__ == "__main__":
    unittest.main()
