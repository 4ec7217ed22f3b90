"""[4.2]: shades, and what they tell of pointwise deeds."""

import unittest

from paintershouse.deeds import POINTWISE, done
from paintershouse.errors import NotAllowed
from paintershouse.pixels import MODES, blended, faded
from paintershouse.shades import PLAIN_SHADE, behind, fixed_pixel, shade_of, shaded
from tests.making import Maker
from tests.test_deeds_errors import GOOD, wrong_deeds

CLEAR = (0, 0, 0, 0)
DOT = ((0, 0, 0),)
KEEP = tuple(range(16))
NONE = (0,) * 16
ALL_PIXELS = [CLEAR] + [(r, g, b, c) for r in KEEP for g in KEEP for b in KEEP for c in KEEP[1:]]


def is_shade(shade):
    """The words of [4.2]."""
    covers, tables = shade
    levels = [*covers, *(level for table in tables for row in table for level in row)]
    return (
        type(shade) is tuple and type(covers) is tuple and type(tables) is tuple
        and len(covers) == 16 and len(tables) == 3
        and all(type(table) is tuple and len(table) == 16 for table in tables)
        and all(type(row) is tuple and len(row) == 16 for table in tables for row in table)
        and all(type(level) is int and 0 <= level <= 15 for level in levels)
        and all(len(set(table[0])) == 1 for table in tables)
        and all(table[c] == NONE for table in tables for c in KEEP if covers[c] == 0)
    )


def plain_shaded(shade, pixel):
    """The words of [4.2]."""
    cover = pixel[3]
    if shade[0][cover] == 0:
        return CLEAR
    return (*(shade[1][k][cover][pixel[k]] for k in range(3)), shade[0][cover])


def made_deeds(many):
    """Pointwise deeds, those of all modes, of the levels 0 and 15, and of clear pixels among them."""
    maker = Maker(42)
    for mode in MODES:
        for pixel in (CLEAR, (3, 9, 15, 15), (0, 12, 7, 6)):
            for level in (0, 8, 15):
                yield ("fill", (), pixel, mode, level)
    for level in KEEP:
        yield ("erase", DOT, level)
    yield ("tone", (), (KEEP,) * 4)
    yield ("tone", (), (NONE,) * 4)
    yield ("tone", (), ((15,) * 16,) * 4)
    yield ("tone", (), (KEEP[::-1],) * 4)
    yield ("tone", (), ((4,) * 16, KEEP, KEEP, (3,) * 16))
    for k in range(many):
        yield maker.deed(POINTWISE[k % 4], 3, 3)


def at_a_point(deed):
    """The same deed, with a region that has the point (0, 0)."""
    if deed[0] == "stroke":
        return (deed[0], ((0, 0),)) + deed[2:]
    return (deed[0], DOT) + deed[2:]


def some_pixels(maker, many):
    """Pixels of every cover, and others."""
    return [CLEAR] + [(1, 8, 15, cover) for cover in KEEP[1:]] + [maker.pixel() for _ in range(many)]


class PlainShadeTests(unittest.TestCase):
    def test_each_pixel_stays(self):
        self.assertTrue(is_shade(PLAIN_SHADE))
        for pixel in ALL_PIXELS:
            if shaded(PLAIN_SHADE, pixel) != pixel:
                self.fail(pixel)

    def test_deeds_that_change_nothing(self):
        for deed in (
            ("erase", DOT, 0), ("tone", (), (KEEP,) * 4), ("fill", DOT, CLEAR, "times", 15),
            ("fill", DOT, (3, 4, 5, 6), "plain", 0), ("stroke", ((0, 0),), ("round", 2), CLEAR, "plain", 15),
            # Only the entries 0 of tables count for clear pixels, and these have no colours.
            ("tone", (), ((0,) + KEEP[1:], KEEP, KEEP, KEEP)),
        ):
            self.assertEqual(shade_of(deed), PLAIN_SHADE)
        self.assertIsNone(fixed_pixel(PLAIN_SHADE))


class ShadeOfTests(unittest.TestCase):
    """The theorem of [4.2]: a shade tells what a pointwise deed makes of a pixel."""

    def test_all_pixels(self):
        for deed in (
            ("fill", DOT, (3, 9, 15, 6), "screen", 9), ("fill", DOT, (12, 0, 7, 15), "apart", 4), ("erase", DOT, 6),
            ("tone", DOT, (KEEP[::-1], KEEP, (7,) * 16, (2,) + KEEP[:15])),
        ):
            shade = shade_of(deed)
            for pixel in ALL_PIXELS:
                if deed[0] == "fill":
                    wanted = blended(deed[3], pixel, deed[2], deed[4])
                elif deed[0] == "erase":
                    wanted = faded(pixel, deed[2])
                else:
                    wanted = tuple(deed[2][k][pixel[k]] for k in range(4))
                    wanted = wanted if wanted[3] else CLEAR
                if shaded(shade, pixel) != wanted:
                    self.fail((deed, pixel))

    def test_many_deeds(self):
        maker = Maker(24)
        for deed in made_deeds(120):
            shade = shade_of(deed)
            self.assertTrue(is_shade(shade), deed)
            for pixel in some_pixels(maker, 25):
                wanted = done(((pixel,),), at_a_point(deed))[0][0]
                self.assertEqual(shaded(shade, pixel), wanted, (deed, pixel))
                self.assertEqual(plain_shaded(shade, pixel), wanted)

    def test_the_region_counts_for_nothing(self):
        for deed in made_deeds(40):
            self.assertEqual(shade_of(deed), shade_of(at_a_point(deed)))
        fill = ("fill", DOT, (1, 2, 3, 4), "times", 5)
        self.assertEqual(shade_of(fill), shade_of(("stroke", ((9, 9),), ("square", 3)) + fill[2:]))

    def test_shades_that_make_the_same_are_the_same(self):
        maker = Maker(43)
        shades = {}
        for deed in made_deeds(200):
            shade = shade_of(deed)
            made = tuple(shaded(shade, (level,) * 3 + (cover,)) for cover in KEEP[1:] for level in KEEP)
            made += (shaded(shade, CLEAR),)
            self.assertEqual(shades.setdefault(made, shade), shade)
        # Tables of colours tell nothing where the cover becomes 0.
        covers = (0, 0, 5) + NONE[3:]
        first = shade_of(("tone", (), (KEEP, KEEP, KEEP, covers)))
        self.assertNotEqual(first, shade_of(("tone", (), (KEEP[::-1], KEEP, KEEP, covers))))
        for _ in range(5):
            tables = maker.tables()[:3] + (NONE,)
            self.assertEqual(shade_of(("tone", (), tables)), shade_of(("erase", (), 15)))
            self.assertEqual(shade_of(("tone", (), tables)), (NONE, ((NONE,) * 16,) * 3))

    def test_answers(self):
        covers, tables = shade_of(("tone", (), (KEEP[::-1], KEEP, KEEP, (3,) + KEEP[1:15] + (0,))))
        self.assertEqual(covers, (3,) + KEEP[1:15] + (0,))
        self.assertEqual((tables[0][0], tables[0][1], tables[0][15]), ((15,) * 16, KEEP[::-1], NONE))
        self.assertEqual((tables[1][0], tables[1][1], tables[1][15]), (NONE, KEEP, NONE))


class BehindTests(unittest.TestCase):
    def test_one_behind_another_one(self):
        maker = Maker(44)
        shades = [shade_of(deed) for deed in made_deeds(40)]
        for _ in range(400):
            first, second = maker.one_of(shades), maker.one_of(shades)
            both = behind(first, second)
            self.assertTrue(is_shade(both))
            for pixel in some_pixels(maker, 10):
                self.assertEqual(shaded(both, pixel), shaded(second, shaded(first, pixel)))

    def test_it_is_the_shade_of_two_deeds(self):
        self.assertEqual(
            behind(shade_of(("erase", (), 15)), shade_of(("fill", (), (1, 2, 3, 4), "plain", 15))),
            shade_of(("tone", (), ((1,) * 16, (2,) * 16, (3,) * 16, (4,) * 16))),
        )
        upside = shade_of(("tone", (), (KEEP[::-1],) * 3 + (KEEP,)))
        self.assertEqual(behind(upside, upside), PLAIN_SHADE)
        self.assertEqual(
            behind(shade_of(("tone", (), (KEEP, KEEP, KEEP, NONE[:15] + (15,)))), shade_of(("erase", (), 14))),
            shade_of(("tone", (), (KEEP, KEEP, KEEP, NONE[:15] + (1,)))),
        )

    def test_laws(self):
        maker = Maker(45)
        shades = [shade_of(deed) for deed in made_deeds(12)][30:]
        for shade in shades:
            self.assertEqual(behind(PLAIN_SHADE, shade), shade)
            self.assertEqual(behind(shade, PLAIN_SHADE), shade)
        for _ in range(60):
            first, second, third = [maker.one_of(shades) for _ in range(3)]
            self.assertEqual(behind(behind(first, second), third), behind(first, behind(second, third)))

    def test_a_fixed_one_stays_fixed(self):
        maker = Maker(46)
        shades = [shade_of(deed) for deed in made_deeds(20)]
        for shade in shades:
            fixed = shade_of(("tone", (), tuple((maker.number(0, 15),) * 16 for _ in range(4))))
            pixel = fixed_pixel(fixed)
            self.assertEqual(fixed_pixel(behind(shade, fixed)), pixel)
            self.assertEqual(fixed_pixel(behind(fixed, shade)), shaded(shade, pixel))


class FixedTests(unittest.TestCase):
    def test_answers(self):
        for deed, pixel in (
            (("erase", (), 15), CLEAR), (("erase", (), 14), None), (("erase", (), 8), None),
            (("fill", (), (1, 2, 3, 15), "plain", 15), (1, 2, 3, 15)), (("fill", (), (1, 2, 3, 14), "plain", 15), None),
            (("fill", (), (1, 2, 3, 15), "plain", 14), None), (("fill", (), (1, 2, 3, 15), "darker", 15), None),
            (("tone", (), (KEEP, KEEP, KEEP, NONE)), CLEAR), (("tone", (), (KEEP, KEEP, KEEP, (1,) * 16)), None),
            (("tone", (), ((5,) * 16, (0,) * 16, (2,) * 16, (1,) * 16)), (5, 0, 2, 1)),
            # Of clear pixels, of one cover, or of one level alone it makes another one.
            (("tone", (), ((5,) * 16, (0,) * 16, (2,) * 16, (0,) + (1,) * 15)), None),
            (("tone", (), ((5,) * 16, (0,) * 16, (2,) * 16, (1,) * 15 + (2,))), None),
            (("tone", (), ((5,) * 16, (0,) * 16, (2,) * 15 + (3,), (1,) * 16)), None),
            (("tone", (), ((5,) + (6,) * 15, (0,) * 16, (2,) * 16, (1,) * 16)), None),
        ):
            self.assertEqual(fixed_pixel(shade_of(deed)), pixel, deed)

    def test_all_pixels(self):
        greys = [CLEAR] + [(level,) * 3 + (cover,) for level in KEEP for cover in KEEP[1:]]
        answers = set()
        for deed in made_deeds(150):
            shade = shade_of(deed)
            made = {shaded(shade, pixel) for pixel in greys}
            answer = fixed_pixel(shade)
            self.assertEqual(answer, made.pop() if len(made) == 1 else None)
            answers.add(answer is None)
        self.assertEqual(answers, {True, False})


class ErrorsTests(unittest.TestCase):
    def test_no_deeds(self):
        for deed in wrong_deeds():
            self.assertRaises(NotAllowed, shade_of, deed)

    def test_deeds_that_are_not_pointwise(self):
        for word, deed in GOOD.items():
            if word in POINTWISE:
                self.assertTrue(is_shade(shade_of(deed)))
            else:
                self.assertRaises(NotAllowed, shade_of, deed)


if __name__ == "__main__":
    unittest.main()
