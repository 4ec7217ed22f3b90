"""[4.8] and [4.9]: what is forgotten, kept points, twins, and undoings."""

import unittest

from paintershouse.deeds import done_all
from paintershouse.errors import Missing, NotAllowed, TooLarge
from paintershouse.forgetting import are_twins, kept_points, pixels_made_same, twins, undoing
from paintershouse.forms import form_of
from paintershouse.pictures import blank, check_picture, points_of, size_of
from paintershouse.pixels import check_pixel
from paintershouse.shades import PLAIN_SHADE, shaded
from tests.making import Maker, dot, plain_region
from tests.test_deeds_errors import GOOD, wrong_deeds
from tests.test_forms import plain_rows
from tests.test_regions import WRONG_SIDES
from tests.test_shades import ALL_PIXELS

CLEAR, RED = (0, 0, 0, 0), (15, 0, 0, 15)
KEEP = tuple(range(16))
HERE = ((0, 0, 0),)


def swapped(one, other):
    """The table that exchanges two levels."""
    return tuple({one: other, other: one}.get(level, level) for level in KEEP)


def tone(*tables, region=HERE):
    return ("tone", region, tables)


class KeptTests(unittest.TestCase):
    def test_plain_reading(self):
        for _, sides, deeds in plain_rows(141, 100):
            entries = [entry for row in form_of(sides, deeds)[1] for entry in row]
            wanted = {entry[:2] for entry in entries if len(entry) == 3}
            self.assertEqual(kept_points(sides, deeds), plain_region(wanted))

    def test_examples(self):
        self.assertEqual(kept_points((2, 1), (("move", 1, 0),)), ((0, 0, 0),))
        self.assertEqual(kept_points((2, 1), (("move", 2, 0),)), ())
        self.assertEqual(kept_points((2, 2), (("turn",),)), ((0, 0, 1), (1, 0, 1)))
        self.assertEqual(kept_points((2, 1), (("copy", HERE, 1, 0),)), ((0, 0, 0),))


class TwinsTests(unittest.TestCase):
    def check_twins(self, sides, deeds):
        one, other = twins(sides, deeds)
        for picture in (one, other):
            check_picture(picture)
            self.assertEqual(size_of(picture), sides)
        self.assertNotEqual(one, other)
        self.assertEqual(done_all(one, deeds), done_all(other, deeds))
        self.assertIs(are_twins(sides, deeds, one, other), True)

    def test_rows_that_forget(self):
        forgotten = 0
        for _, sides, deeds in plain_rows(142, 150):
            try:
                self.check_twins(sides, deeds)
            except Missing:
                continue
            forgotten += 1
        self.assertGreater(forgotten, 60)

    def test_one_point_against_all_pixels(self):
        missing = 0
        for _, sides, deeds in plain_rows(143, 63):
            if sides == (1, 1):
                made = {done_all(((pixel,),), deeds) for pixel in ALL_PIXELS} if deeds else set(ALL_PIXELS)
                if len(made) == len(ALL_PIXELS):
                    missing += 1
                    self.assertRaises(Missing, twins, sides, deeds)
                else:
                    self.check_twins(sides, deeds)
        self.assertGreater(missing, 0)

    def test_two_shades_of_one_point(self):
        # The first one keeps the colours, the second one the cover: together they tell the pixel.
        flat = tone(KEEP, KEEP, KEEP, (0,) + (15,) * 15)
        grey = tone((0,) * 16, (0,) * 16, (0,) * 16, KEEP, region=((0, 1, 1),))
        both = (("erase", ((0, 1, 1),), 15), ("copy", HERE, 1, 0), flat, grey)
        kept = (("copy", HERE, 1, 0), flat, grey)
        # What was at the other point is forgotten all the same.
        self.check_twins((2, 1), both)
        self.check_twins((2, 1), kept)
        one, other = twins((2, 1), kept)
        self.assertEqual(one[0][0], other[0][0])
        # Each of them alone forgets something of the first point.
        self.check_twins((1, 1), (flat,))
        self.check_twins((1, 1), (tone((0,) * 16, (0,) * 16, (0,) * 16, KEEP),))

    def test_covers_that_become_the_same(self):
        half = tone(KEEP, KEEP, KEEP, KEEP[:15] + (14,))
        self.check_twins((1, 1), (half,))
        low = ("tone", HERE, (tuple(level // 2 for level in KEEP),) + (KEEP,) * 3)
        self.check_twins((1, 1), (low,))
        self.check_twins((1, 1), (tone(KEEP, KEEP, KEEP, (0, 0) + KEEP[2:]),))
        self.check_twins((1, 1), (tone(KEEP, KEEP, KEEP, (1,) + KEEP[1:]),))

    def test_rows_that_forget_nothing(self):
        every = ((0, 0, 2), (1, 0, 2))
        for deeds in (
            (), (("flip",), ("fall",)), (("move", 0, 0),), (("erase", every, 0),),
            (tone(swapped(3, 4), KEEP[::-1], KEEP, swapped(1, 15), region=every),),
            (("copy", every, 3, 0), ("erase", ((5, 0, 9),), 15)),
        ):
            self.assertRaises(Missing, twins, (3, 2), deeds)
        self.assertRaises(Missing, twins, (2, 2), (("turn",),) * 39)

    def test_are_twins(self):
        one, other = dot(2, 1, (1, 0), RED), blank(2, 1)
        deeds = (("move", 1, 0),)
        self.assertIs(are_twins((2, 1), deeds, one, other), True)
        self.assertIs(are_twins((2, 1), deeds, other, one), True)
        self.assertIs(are_twins((2, 1), deeds, one, one), False)
        self.assertIs(are_twins((2, 1), (), one, other), False)
        self.assertIs(are_twins((2, 1), deeds, dot(2, 1, (0, 0), RED), other), False)
        for first, second in ((blank(1, 2), blank(2, 1)), (blank(2, 1), blank(2, 2)), (blank(1, 1), dot(1, 1, (0, 0), RED))):
            self.assertIs(are_twins((2, 1), (("move", 2, 0),), first, second), False)

    def test_are_twins_plain_reading(self):
        for maker, sides, deeds in plain_rows(144, 100):
            one = maker.picture(*sides)
            for other in (maker.picture(*sides), one, dot(*sides, (0, 0), CLEAR), maker.picture(sides[0], sides[1] + 1)):
                wanted = size_of(other) == sides and one != other and done_all(one, deeds) == done_all(other, deeds)
                self.assertIs(are_twins(sides, deeds, one, other), wanted)


class SamePixelsTests(unittest.TestCase):
    """Shades that keep colours, and others that tell covers by the level of red."""

    def colours(self, at=(), levels=KEEP, clear=0):
        """The shade that keeps colours, but for that at (k, cover), and makes all covers 15."""
        tables = []
        for k in range(3):
            rows = [KEEP if clear or cover else (0,) * 16 for cover in KEEP]
            rows[0] = (0,) * 16
            if at and at[0] == k:
                rows[at[1]] = levels
            tables.append(tuple(rows))
        return ((clear,) + (15,) * 15, tuple(tables))

    def covers(self, told):
        """The shade whose red tells for each cover a level, and makes all covers 15."""
        reds = tuple((level,) * 16 for level in told)
        nothing = ((0,) * 16,) * 16
        return ((15,) * 16, (reds, nothing, nothing))

    def check(self, shades, covers):
        one, other = pixels_made_same(shades)
        self.assertNotEqual(one, other)
        for pixel in (one, other):
            self.assertIsNone(check_pixel(pixel))
        self.assertEqual({one[3], other[3]}, set(covers))
        for shade in shades:
            self.assertEqual(shaded(shade, one), shaded(shade, other))

    def test_colours_and_covers_together_tell_the_pixel(self):
        self.assertEqual(pixels_made_same((self.colours(), self.covers(KEEP))), ())
        self.assertEqual(pixels_made_same((self.colours(clear=15), self.covers(KEEP))), ())
        self.assertEqual(pixels_made_same((PLAIN_SHADE,)), ())

    def test_two_covers_that_are_told_by_the_same_level(self):
        for first in KEEP:
            for second in KEEP[first + 1:]:
                told = tuple(first if cover == second else cover for cover in KEEP)
                self.check((self.colours(clear=15), self.covers(told)), (first, second))
                if first == 0:
                    # The clear pixel is told by its cover, too.
                    self.assertEqual(pixels_made_same((self.colours(), self.covers(told))), ())

    def test_two_levels_of_one_colour_that_become_the_same(self):
        for k in range(3):
            for cover in KEEP[1:]:
                for low, high in ((0, 1), (14, 15), (3, 9)):
                    levels = tuple(low if level == high else level for level in KEEP)
                    shades = (self.colours((k, cover), levels), self.covers(KEEP))
                    self.check(shades, (cover,))
                    pixels = pixels_made_same(shades)
                    self.assertEqual({pixel[k] for pixel in pixels}, {low, high})

    def test_other_levels_of_other_covers(self):
        told = KEEP[:5] + (4,) + KEEP[6:]
        for k in range(3):
            shades = (self.colours((k, 5), KEEP[1:] + KEEP[:1]), self.covers(told))
            self.check(shades, (4, 5))
            one, other = pixels_made_same(shades)
            self.assertNotEqual(one[k], other[k])

    def test_covers_with_no_level_in_common(self):
        half = tuple(level // 2 for level in KEEP)
        high = tuple(8 + level // 2 for level in KEEP)
        odd = tuple(level % 2 for level in KEEP)
        # With these, the covers 4 and 5 have each colour apart, but are told by the same level.
        told = KEEP[:5] + (4,) + KEEP[6:]
        for k in range(3):
            shades = (self.colours((k, 4), half), self.colours((k, 4), odd), self.covers(told))
            self.check((self.colours((k, 4), half), self.covers(told)), (4,))
            self.check(shades, (4, 5))
            lower, upper = self.colours((k, 4), half), self.colours((k, 5), high)
            both = tuple(tuple(
                upper[1][place][cover] if cover == 5 else lower[1][place][cover] for cover in KEEP
            ) for place in range(3))
            again = tuple(
                tuple(odd if place == k and cover in (4, 5) else self.colours()[1][place][cover] for cover in KEEP)
                for place in range(3)
            )
            apart = (((0,) + (15,) * 15, both), ((0,) + (15,) * 15, again), self.covers(told))
            self.assertEqual(pixels_made_same(apart), ())


class UndoingTests(unittest.TestCase):
    def test_each_deed(self):
        tables = (swapped(0, 9), KEEP[1:] + KEEP[:1], KEEP, (0,) + KEEP[2:] + (1,))
        back = (swapped(0, 9), KEEP[15:] + KEEP[:15], KEEP, (0, 15) + KEEP[1:15])
        region = ((0, 0, 23), (23, 1, 1))
        wanted = {
            ("flip",): (("flip",),), ("fall",): (("fall",),), ("turn",): (("turn",),) * 3, ("move", 0, 0): (),
            ("tone", region, tables): (("tone", region, back),), ("tone", region, (KEEP,) * 4): (),
            ("tone", ((5, 0, 0),), tables): (), ("erase", region, 0): (), ("copy", region, 0, 0): (),
            ("fill", region, CLEAR, "apart", 9): (), ("fill", ((9, 0, 0),), RED, "plain", 15): (),
        }
        for deed, deeds in wanted.items():
            self.assertEqual(undoing((2, 2), (deed,)), deeds)
        self.assertEqual(undoing((2, 2), ()), ())
        for deed in (("flip",), ("fall",), ("turn",)):
            self.assertEqual(undoing((1, 1), (deed,)), ())
        self.assertEqual(undoing((1, 2), (("flip",), ("fall",))), (("fall",),))

    def test_order(self):
        self.assertEqual(undoing((2, 2), (("turn",), ("flip",))), (("flip",), ("turn",), ("turn",), ("turn",)))
        self.assertEqual(undoing((2, 1), (tone(*(KEEP[::-1],) * 3, KEEP), ("flip",))), (("flip",), tone(*(KEEP[::-1],) * 3, KEEP)))

    def test_deeds_without_an_undoing(self):
        for deed in (
            ("erase", HERE, 1), ("fill", HERE, RED, "plain", 15), ("move", 1, 0), ("copy", HERE, 1, 0),
            ("stroke", ((0, 0),), ("round", 0), RED, "plain", 3), tone(KEEP, (0,) + KEEP[:15], KEEP, KEEP),
            tone(KEEP, KEEP, KEEP, swapped(0, 1)), tone(*(KEEP,) * 3, KEEP[:15] + (14,)), ("fill", HERE, CLEAR, "plain", 15),
        ):
            if form_of((2, 2), (deed,)) == form_of((2, 2), ()):
                self.assertEqual(undoing((2, 2), (deed,)), ())
            else:
                self.assertRaises(Missing, undoing, (2, 2), (deed,))
                self.assertRaises(Missing, undoing, (2, 2), (("flip",), deed, ("turn",)))

    def test_undone_a_row_does_nothing(self):
        maker = Maker(145)
        for k in range(60):
            sides = ((1, 1), (2, 2), (3, 1), (3, 3))[k % 4]
            deeds = []
            for _ in range(maker.number(0, 8)):
                word = maker.one_of(("flip", "fall", "tone", "turn"))
                if word == "tone":
                    deeds.append(("tone", maker.region(*sides), maker.shuffled_tables()))
                elif word != "turn" or sides[0] == sides[1]:
                    deeds.append((word,))
            back = undoing(sides, tuple(deeds))
            self.assertEqual(form_of(sides, tuple(deeds) + back), form_of(sides, ()))
            self.assertEqual(form_of(sides, back + tuple(deeds)), form_of(sides, ()))
            for point in points_of(*sides):
                picture = dot(*sides, point, maker.pixel())
                self.assertEqual(done_all(done_all(picture, tuple(deeds)), back), picture)

    def test_forty_deeds_and_more(self):
        turn, flip = ("turn",), ("flip",)
        self.assertEqual(len(undoing((2, 2), (flip,) * 40)), 40)
        self.assertEqual(len(undoing((2, 2), (turn,) * 13 + (flip,))), 40)
        self.assertRaises(TooLarge, undoing, (2, 2), (turn,) * 13 + (flip,) * 2)
        self.assertRaises(TooLarge, undoing, (2, 2), (turn,) * 14)
        self.assertEqual(undoing((1, 1), (turn,) * 40), ())
        # If a deed has no undoing, the row has none that could be too long.
        self.assertRaises(Missing, undoing, (2, 2), (turn,) * 14 + (("move", 1, 0),))
        self.assertRaises(NotAllowed, undoing, (2, 2), (turn,) * 41)


class WrongValuesTests(unittest.TestCase):
    def refused(self, sides, deeds):
        for call, told in ((kept_points, ()), (twins, ()), (are_twins, (blank(2, 1), blank(2, 1))), (undoing, ())):
            self.assertRaises(NotAllowed, call, sides, deeds, *told)

    def test_wrong_values(self):
        for sides in WRONG_SIDES:
            self.refused(sides, ())
        for deed in wrong_deeds():
            self.refused((2, 2), (deed,))
        for word in ("mean", "swell", "flood"):
            self.refused((2, 2), (GOOD[word],))
        self.refused((2, 1), (("turn",),))
        self.refused((2, 2), (("flip",),) * 41)


if __name__ == "__main__":
    unittest.main()
