"""[10.1] and [10.2]: distances, palettes, reduced pictures, and the best palette from candidates."""

import itertools
import unittest

from paintershouse.errors import NotAllowed
from paintershouse.palettes import (
    MAX_CANDIDATES, MAX_PALETTE, best_palette, check_palette, distance_of, loss_of, nearest, reduced,
)
from tests.making import Maker

CLEAR, RED, DARK, BLUE = (0, 0, 0, 0), (15, 0, 0, 15), (12, 0, 0, 15), (0, 0, 15, 15)
GREYS = tuple((level, level, level, 15) for level in range(16))


def plain_distance(first, second):
    return sum((one - other) ** 2 for one, other in zip(first, second))


def plain_loss(picture, palette):
    return sum(min(plain_distance(pixel, other) for other in palette) for row in picture for pixel in row)


def plain_best(picture, candidates, k):
    """The best palette among all choices."""
    choices = []
    for size in range(1, min(k, len(candidates)) + 1):
        for palette in itertools.combinations(candidates, size):
            choices.append((plain_loss(picture, palette), size, palette))
    return min(choices)[2]


class DistanceTests(unittest.TestCase):
    def test_distances(self):
        maker = Maker(401)
        self.assertEqual(distance_of(RED, DARK), 9)
        self.assertEqual(distance_of(CLEAR, (15, 15, 15, 15)), 900)
        for _ in range(200):
            one, other = maker.pixel(), maker.pixel()
            self.assertEqual(distance_of(one, other), plain_distance(one, other))
            self.assertEqual(distance_of(one, other), distance_of(other, one))
            self.assertEqual(distance_of(one, one), 0)

    def test_the_nearest_pixel(self):
        maker = Maker(402)
        for _ in range(300):
            palette, pixel = maker.few_pixels(maker.number(1, 8)), maker.pixel()
            self.assertEqual(nearest(palette, pixel), min(palette, key=lambda other: plain_distance(other, pixel)))
        # Of several the first one.
        self.assertEqual(nearest(((4, 0, 0, 15), (6, 0, 0, 15)), (5, 0, 0, 15)), (4, 0, 0, 15))
        self.assertEqual(nearest(((5, 0, 0, 15), (5, 0, 2, 15), (5, 1, 1, 15)), (5, 0, 1, 15)), (5, 0, 0, 15))
        self.assertEqual(nearest((BLUE,), RED), BLUE)

    def test_reduced_pictures_and_their_loss(self):
        maker = Maker(403)
        for k in range(80):
            wide, high = maker.number(1, 6), maker.number(1, 6)
            picture, palette = maker.picture(wide, high), maker.few_pixels(1 + k % 8)
            wanted = tuple(tuple(min(palette, key=lambda other: plain_distance(other, pixel)) for pixel in row) for row in picture)
            self.assertEqual(reduced(picture, palette), wanted)
            self.assertEqual(loss_of(picture, palette), plain_loss(picture, palette))
            self.assertEqual(loss_of(picture, palette), sum(plain_distance(one, other) for row, rest in zip(picture, wanted) for one, other in zip(row, rest)))
            self.assertEqual(reduced(wanted, palette), wanted)
            self.assertEqual(loss_of(wanted, palette), 0)

    def test_examples(self):
        self.assertEqual(loss_of(((RED, DARK, DARK, BLUE),), (BLUE, DARK)), 9)
        self.assertEqual(reduced(((RED, BLUE),), (DARK,)), ((DARK, DARK),))
        self.assertEqual(loss_of(((CLEAR,) * 24,) * 24, ((15, 15, 15, 15),)), 900 * 576)


class BestTests(unittest.TestCase):
    def test_all_choices(self):
        maker = Maker(404)
        for k in range(150):
            picture = maker.picture_of(maker.number(1, 4), maker.number(1, 3), maker.few_pixels(maker.number(1, 6)))
            candidates = maker.few_pixels(maker.number(1, 7))
            if maker.number(0, 1):
                candidates = tuple(sorted(set(candidates[:4]) | {pixel for row in picture for pixel in row}))[:14]
            for most in (1, 2, 3, maker.number(4, 8)):
                self.assertEqual(best_palette(picture, candidates, most), plain_best(picture, candidates, most))

    def test_greys_with_several_best_palettes(self):
        maker = Maker(405)
        for _ in range(60):
            picture = maker.picture_of(maker.number(1, 5), 2, tuple(maker.one_of(GREYS) for _ in range(3)))
            candidates = tuple(sorted({maker.one_of(GREYS) for _ in range(8)}))
            for most in (1, 2, 3):
                self.assertEqual(best_palette(picture, candidates, most), plain_best(picture, candidates, most))

    def test_several_best_ones(self):
        picture = ((GREYS[5], GREYS[5]),)
        # As far away: the first one; with no more loss: the fewest.
        self.assertEqual(best_palette(picture, (GREYS[4], GREYS[6]), 2), (GREYS[4],))
        self.assertEqual(best_palette(picture, (GREYS[3], GREYS[6]), 1), (GREYS[6],))
        self.assertEqual(best_palette(picture, GREYS[:14], 8), (GREYS[5],))
        self.assertEqual(best_palette(((GREYS[5], GREYS[9]),), GREYS[:14], 8), (GREYS[5], GREYS[9]))
        self.assertEqual(best_palette(((GREYS[4], GREYS[6]),), GREYS[:14], 1), (GREYS[5],))
        self.assertEqual(best_palette(((GREYS[4], GREYS[7]),), GREYS[:14], 1), (GREYS[5],))
        self.assertEqual(best_palette(((GREYS[0], GREYS[10]), (GREYS[1], GREYS[11])), (GREYS[0], GREYS[1], GREYS[10], GREYS[11]), 2), (GREYS[0], GREYS[10]))

    def test_examples(self):
        self.assertEqual(best_palette(((RED, DARK, DARK, BLUE),), (BLUE, DARK, RED), 2), (BLUE, DARK))
        self.assertEqual(best_palette(((RED,),), (BLUE,), 8), (BLUE,))
        self.assertEqual(best_palette(((RED, DARK, BLUE),), (BLUE, DARK, RED), 3), (BLUE, DARK, RED))

    def test_pixels_count_as_often_as_they_are_there(self):
        one, other, between = (5, 0, 0, 15), (8, 0, 0, 15), (7, 0, 0, 15)
        wanted = {(1, 1): between, (2, 1): one, (3, 1): one, (1, 2): between, (9, 10): between, (15, 7): one}
        for (many, more), pixel in wanted.items():
            picture = ((one,) * many + (other,) * more,)
            self.assertEqual(best_palette(picture, (one, between), 1), plain_best(picture, (one, between), 1))
            self.assertEqual(best_palette(picture, (one, between), 1), (pixel,))

    def test_fourteen_candidates(self):
        maker = Maker(406)
        picture, candidates = maker.picture(4, 4), maker.few_pixels(14)
        for most in (1, 2, 3, 8):
            self.assertEqual(best_palette(picture, candidates, most), plain_best(picture, candidates, most))


class WrongValuesTests(unittest.TestCase):
    WRONG = (
        (), (RED, BLUE), (RED, RED), (BLUE, RED, DARK), ((0, 0, 0),), ((0, 0, 0, 0, 0),), ((16, 0, 0, 15),), ((-1, 0, 0, 15),), ((1, 0, 0, 0),), ((),),
        (CLEAR, (0, 0, 0, 16)),
    )

    def refused(self, palette):
        for call, told in ((check_palette, (palette,)), (nearest, (palette, RED)), (reduced, (((RED,),), palette)), (loss_of, (((RED,),), palette))):
            self.assertRaises(NotAllowed, call, *told)

    def test_palettes(self):
        self.assertEqual((MAX_PALETTE, MAX_CANDIDATES), (8, 14))
        for many in range(1, 9):
            self.assertIsNone(check_palette(GREYS[:many]))
        for palette in self.WRONG + (GREYS[:9], GREYS[:14], GREYS):
            self.refused(palette)

    def test_candidates(self):
        for candidates in self.WRONG + (GREYS[:15], GREYS):
            for most in (1, 2, 8):
                self.assertRaises(NotAllowed, best_palette, ((RED,),), candidates, most)
        for many in range(1, 15):
            self.assertEqual(best_palette(((CLEAR,),), GREYS[:many], 1), (GREYS[0],))

    def test_how_many(self):
        for most in (0, -1, 9, 14, 100):
            self.assertRaises(NotAllowed, best_palette, ((RED,),), (BLUE,), most)
        for most in range(1, 9):
            self.assertEqual(best_palette(((RED,),), (BLUE,), most), (BLUE,))


if __name__ == "__main__":
    unittest.main()
