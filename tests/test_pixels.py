"""[1.2] to [1.6]: levels, pixels, modes, and a pixel above another one."""

import unittest

from paintershouse.errors import NotAllowed
from paintershouse.pixels import (
    CLEAR, MODES, blended, check_level, check_mode, check_pixel, faded, is_pixel, mixed,
    put_together, scaled,
)
from tests.making import Maker

LEVELS = range(16)


def plain_scaled(x, y):
    return (x * y + 7) // 15


def plain_mixed(x, y, m):
    return (x * (15 - m) + y * m + 7) // 15


def plain_colour(mode, p, q):
    return {
        "plain": q,
        "darker": q if q < p else p,
        "lighter": q if q > p else p,
        "times": plain_scaled(p, q),
        "screen": 15 - plain_scaled(15 - p, 15 - q),
        "apart": q - p if q > p else p - q,
    }[mode]


def plain_blended(mode, below, above, level):
    """The words of [1.5], one after another."""
    b = below[3]
    a = plain_scaled(above[3], level)
    r = plain_scaled(b, 15 - a)
    if a + r == 0:
        return (0, 0, 0, 0)
    seen = []
    for p, q in zip(below[:3], above[:3]):
        k = plain_mixed(q, plain_colour(mode, p, q), b)
        seen.append((p * r + k * a + (a + r) // 2) // (a + r))
    return (*seen, a + r)


def made_pixels(seed, many):
    maker = Maker(seed)
    return [maker.pixel() for _ in range(many)] + [CLEAR, (15, 15, 15, 15), (0, 0, 0, 1), (0, 0, 0, 15)]


class LevelsAndPixelsTests(unittest.TestCase):
    def test_pixels(self):
        for pixel in ((0, 0, 0, 0), (0, 0, 0, 1), (15, 15, 15, 15), (1, 2, 3, 4), (15, 0, 0, 1)):
            with self.subTest(pixel=pixel):
                self.assertIs(is_pixel(pixel), True)
                self.assertIsNone(check_pixel(pixel))

    def test_no_pixels(self):
        wrong = [
            (), (1,), (0, 0, 0), (1, 2, 3), (1, 2, 3, 4, 5), (0, 0, 0, 0, 0),
            (1, 0, 0, 0), (0, 1, 0, 0), (0, 0, 15, 0),
            (16, 0, 0, 1), (0, 16, 0, 1), (0, 0, 16, 1), (0, 0, 0, 16),
            (-1, 0, 0, 1), (0, -1, 0, 1), (0, 0, -1, 1), (0, 0, 0, -1),
        ]
        for pixel in wrong:
            with self.subTest(pixel=pixel):
                self.assertIs(is_pixel(pixel), False)
                self.assertRaises(NotAllowed, check_pixel, pixel)

    def test_levels(self):
        for level in LEVELS:
            self.assertIsNone(check_level(level))
        for level in (-1, 16, -15, 255, 10 ** 30):
            self.assertRaises(NotAllowed, check_level, level)

    def test_modes(self):
        self.assertEqual(MODES, ("plain", "darker", "lighter", "times", "screen", "apart"))
        for mode in MODES:
            self.assertIsNone(check_mode(mode))
        for mode in ("", "Plain", "plain ", "pla", "plain\n", "normal", "plain darker"):
            self.assertRaises(NotAllowed, check_mode, mode)


class ScaledAndMixedTests(unittest.TestCase):
    def test_scaled(self):
        for x in LEVELS:
            for y in LEVELS:
                self.assertEqual(scaled(x, y), plain_scaled(x, y))
                self.assertIn(scaled(x, y), LEVELS)
            self.assertEqual((scaled(x, 15), scaled(x, 0), scaled(15, x)), (x, 0, x))

    def test_scaled_rounds(self):
        self.assertEqual([scaled(8, y) for y in (1, 2, 13, 14)], [1, 1, 7, 7])

    def test_mixed(self):
        for x in LEVELS:
            for y in LEVELS:
                self.assertEqual((mixed(x, y, 0), mixed(x, y, 15)), (x, y))
                for m in LEVELS:
                    self.assertEqual(mixed(x, y, m), plain_mixed(x, y, m))


class ModesTests(unittest.TestCase):
    def test_all_colours(self):
        for mode in MODES:
            for p in LEVELS:
                for q in LEVELS:
                    self.assertEqual(put_together(mode, p, q), plain_colour(mode, p, q), (mode, p, q))

    def test_some_answers(self):
        told = {"plain": 9, "darker": 6, "lighter": 9, "times": 4, "screen": 11, "apart": 3}
        for mode, colour in told.items():
            self.assertEqual(put_together(mode, 6, 9), colour)
        self.assertEqual(put_together("plain", 9, 6), 6)


class BlendedTests(unittest.TestCase):
    def test_answers(self):
        self.assertEqual(blended("plain", (0, 15, 0, 15), (15, 0, 0, 15), 8), (8, 7, 0, 15))
        self.assertEqual(blended("times", (8, 8, 8, 10), (4, 15, 0, 6), 15), (6, 9, 4, 12))
        self.assertEqual(blended("times", (3, 3, 3, 15), CLEAR, 15), (3, 3, 3, 15))
        # With nothing below a mode does nothing.
        self.assertEqual(blended("darker", CLEAR, (7, 8, 9, 5), 15), (7, 8, 9, 5))
        self.assertEqual(blended("apart", CLEAR, (7, 8, 9, 5), 1), CLEAR)

    def test_plain_reading_for_all_covers_and_levels(self):
        colours = [((0, 7, 15), (15, 8, 0)), ((3, 12, 6), (9, 4, 6))]
        for mode in MODES:
            for lows, tops in colours:
                for b in LEVELS:
                    below = (*lows, b) if b else CLEAR
                    for c in LEVELS:
                        above = (*tops, c) if c else CLEAR
                        for level in LEVELS:
                            self.assertEqual(
                                blended(mode, below, above, level),
                                plain_blended(mode, below, above, level),
                                (mode, below, above, level),
                            )

    def test_plain_reading_for_made_pixels(self):
        pixels = made_pixels(15, 60)
        for mode in MODES:
            for below in pixels:
                for k, above in enumerate(pixels):
                    level = (k * 7 + below[0]) % 16
                    self.assertEqual(blended(mode, below, above, level), plain_blended(mode, below, above, level))


class BlendedTheoremTests(unittest.TestCase):
    """The theorem of [1.5]."""

    def setUp(self):
        self.pixels = made_pixels(5, 50)

    def test_it_is_a_pixel(self):
        for mode in MODES:
            for below in self.pixels:
                for above in self.pixels:
                    for level in (0, 1, 7, 8, 14, 15):
                        seen = blended(mode, below, above, level)
                        self.assertIs(type(seen), tuple)
                        self.assertTrue(is_pixel(seen), (mode, below, above, level))

    def test_at_the_level_0_the_one_below_stays(self):
        for mode in MODES:
            for below in self.pixels:
                for above in self.pixels:
                    self.assertEqual(blended(mode, below, above, 0), below)

    def test_below_nothing_that_covers_the_one_below_stays(self):
        for mode in MODES:
            for below in self.pixels:
                for level in LEVELS:
                    self.assertEqual(blended(mode, below, CLEAR, level), below)

    def test_full_cover_hides_all_that_is_below(self):
        for below in self.pixels:
            for above in self.pixels:
                full = above[:3] + (15,)
                self.assertEqual(blended("plain", below, full, 15), full)


class FadedTests(unittest.TestCase):
    def test_answers(self):
        self.assertEqual(faded((1, 2, 3, 9), 5), (1, 2, 3, 6))
        self.assertEqual(faded((1, 2, 3, 15), 15), CLEAR)
        self.assertEqual(faded((1, 2, 3, 1), 8), CLEAR)
        self.assertEqual(faded((1, 2, 3, 1), 7), (1, 2, 3, 1))

    def test_all_covers_and_levels(self):
        for cover in LEVELS:
            pixel = (4, 0, 15, cover) if cover else CLEAR
            self.assertEqual((faded(pixel, 0), faded(pixel, 15)), (pixel, CLEAR))
            for level in LEVELS:
                rest = plain_scaled(cover, 15 - level)
                self.assertEqual(faded(pixel, level), (4, 0, 15, rest) if rest else CLEAR)


if __name__ == "__main__":
    unittest.main()
