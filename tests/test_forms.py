"""[4.1] and [4.3]: plain rows, forms with the main theorem, and the least picture."""

import unittest

from paintershouse.deeds import done_all
from paintershouse.errors import Missing, NotAllowed
from paintershouse.forms import (
    FormBook, check_plain, deed_form, drawn_by, form_behind, form_of, least_picture, picture_apart, told_entries,
)
from paintershouse.pictures import points_of
from paintershouse.shades import PLAIN_SHADE, fixed_pixel
from tests.making import GREYS, MODES, Maker, dot
from tests.test_deeds_errors import GOOD, wrong_deeds
from tests.test_regions import WRONG_SIDES
from tests.test_shades import ALL_PIXELS, is_shade

CLEAR, RED = (0, 0, 0, 0), (15, 0, 0, 15)
KEEP = tuple(range(16))
SIDES = [(1, 1), (2, 1), (1, 3), (2, 2), (3, 2), (3, 3), (4, 2)]
FAR = ((0, 0, 0), (23, 5, 23))


def plain_rows(seed, many):
    """Sides and plain rows for them, with few and with many deeds."""
    maker = Maker(seed)
    for k in range(many):
        sides = SIDES[k % len(SIDES)]
        yield maker, sides, maker.plain_row(*sides, maker.one_of((0, 1, 1, 2, 3, 5, 8)))


def same_of_dots(sides, first, second):
    """Tells whether two rows make the same of all pictures with one grey pixel at most.

    A colour behind a row follows from this colour and the cover at one point.
    """
    for point in points_of(*sides):
        for pixel in GREYS:
            picture = dot(*sides, point, pixel)
            if done_all(picture, first) != done_all(picture, second):
                return False
    return True


def is_form(sides, form):
    """The words of [4.3], but for what the entries should be."""
    shades, rows = form
    used = set()
    for row in rows:
        for entry in row:
            if len(entry) == 3:
                x, y, k = entry
                if not (0 <= x < sides[0] and 0 <= y < sides[1] and 0 <= k < len(shades)):
                    return False
                used.add(k)
            elif entry not in PIXELS:
                return False
    return (
        type(form) is tuple and type(shades) is tuple and type(rows) is tuple
        and (len(rows), {len(row) for row in rows}) == (sides[1], {sides[0]})
        and list(shades) == sorted(set(shades)) and used == set(range(len(shades)))
        and all(is_shade(shade) and fixed_pixel(shade) is None for shade in shades)
    )


PIXELS = set(ALL_PIXELS)


class PlainTests(unittest.TestCase):
    def test_plain_rows(self):
        for sides in SIDES + [(24, 24), (1, 24)]:
            self.assertIsNone(check_plain(sides, ()))
            self.assertIsNone(check_plain(sides, (("flip",),) * 40))
        for word in ("fill", "erase", "tone", "stroke", "move", "flip", "fall", "copy"):
            self.assertIsNone(check_plain((2, 1), (GOOD[word],)))
        self.assertIsNone(check_plain((2, 2), (GOOD["turn"],)))

    def test_no_plain_rows(self):
        for word in ("mean", "swell", "flood"):
            self.refused((2, 2), (("flip",), GOOD[word]))
        self.refused((2, 1), (("turn",),))
        self.refused((1, 2), (("flip",), ("turn",)))
        self.refused((2, 2), (("flip",),) * 41)
        for deed in wrong_deeds():
            self.refused((2, 2), (deed,))
        for sides in WRONG_SIDES:
            self.refused(sides, ())

    def refused(self, sides, deeds):
        self.assertRaises(NotAllowed, check_plain, sides, deeds)
        self.assertRaises(NotAllowed, form_of, sides, deeds)
        self.assertRaises(NotAllowed, least_picture, sides, deeds, ())
        self.assertRaises(NotAllowed, least_picture, sides, (), deeds)


class FormTests(unittest.TestCase):
    def test_carriers(self):
        wanted = {
            ("flip",): ((1, 0), (0, 0), (1, 1), (0, 1)), ("fall",): ((0, 1), (1, 1), (0, 0), (1, 0)),
            ("turn",): ((0, 1), (0, 0), (1, 1), (1, 0)), ("move", 0, 0): ((0, 0), (1, 0), (0, 1), (1, 1)),
            ("move", 1, 0): (None, (0, 0), None, (0, 1)), ("move", 0, -1): ((0, 1), (1, 1), None, None),
            ("move", -24, 24): (None,) * 4, ("copy", ((0, 0, 0),), 1, 0): ((0, 0), (0, 0), (0, 1), (1, 1)),
            ("copy", ((0, 0, 1), (1, 0, 0)), 0, 1): ((0, 0), (1, 0), (0, 0), (1, 0)),
            ("copy", FAR, 0, 1): ((0, 0), (1, 0), (0, 0), (1, 1)), ("copy", FAR, -23, -23): ((0, 0), (1, 0), (0, 1), (1, 1)),
            ("copy", FAR, 10 ** 9, 0): ((0, 0), (1, 0), (0, 1), (1, 1)),
        }
        for deed, sources in wanted.items():
            entries = [CLEAR if source is None else source + (0,) for source in sources]
            shades = (PLAIN_SHADE,) if None not in sources or len(set(sources)) > 1 else ()
            self.assertEqual(form_of((2, 2), (deed,)), (shades, (tuple(entries[:2]), tuple(entries[2:]))))

    def test_deeds_that_do_nothing(self):
        plain = form_of((2, 2), ())
        self.assertEqual(plain, ((PLAIN_SHADE,), (((0, 0, 0), (1, 0, 0)), ((0, 1, 0), (1, 1, 0)))))
        for deed in (
            ("move", 0, 0), ("erase", ((0, 0, 1),), 0), ("fill", ((0, 0, 1),), RED, "plain", 0),
            ("fill", ((0, 0, 1),), CLEAR, "times", 15), ("tone", ((0, 0, 1),), (KEEP,) * 4), ("copy", ((0, 0, 1),), 0, 0),
            ("fill", ((2, 0, 5), (3, 0, 0)), RED, "plain", 15), ("erase", (), 15),
            ("stroke", ((40, 40), (30, 48)), ("round", 3), RED, "plain", 15), ("copy", ((5, 5, 5),), -5, -5),
        ):
            self.assertEqual(form_of((2, 2), (deed,)), plain)
        self.assertEqual(form_of((1, 1), (("flip",), ("fall",), ("turn",))), form_of((1, 1), ()))

    def test_fixed_shades_are_pixels(self):
        self.assertEqual(form_of((2, 1), (("fill", ((0, 0, 0),), RED, "plain", 15),))[1], ((RED, (1, 0, 0)),))
        self.assertEqual(form_of((2, 1), (("erase", ((0, 0, 1),), 15),)), ((), ((CLEAR, CLEAR),)))
        zeros = ((9,) * 16,) * 3 + ((0,) * 16,)
        self.assertEqual(form_of((1, 1), (("tone", ((0, 0, 0),), zeros),)), ((), ((CLEAR,),)))
        # Two shades that are not fixed, one behind the other one, can be fixed together.
        low = ("tone", ((0, 0, 0),), (KEEP,) * 3 + ((0,) * 8 + (1,) * 8,))
        self.assertEqual(form_of((1, 1), (low, ("erase", ((0, 0, 0),), 8))), ((), ((CLEAR,),)))

    def test_regions_and_paths_beyond_the_sides(self):
        inside = form_of((2, 2), (("erase", ((0, 1, 1), (1, 0, 0)), 4),))
        self.assertEqual(form_of((2, 2), (("erase", ((0, 1, 23), (1, 0, 0), (9, 0, 3)), 4),)), inside)
        paint = (RED, "plain", 7)
        stroke = ("stroke", ((-5, 1), (30, 1)), ("square", 0)) + paint
        self.assertEqual(form_of((2, 2), (stroke,)), form_of((2, 2), (("fill", ((1, 0, 1),)) + paint,)))

    def test_what_forms_make(self):
        for maker, sides, deeds in plain_rows(111, 140):
            form = form_of(sides, deeds)
            self.assertTrue(is_form(sides, form))
            pictures = [maker.picture(*sides) for _ in range(6)] + [dot(*sides, (0, 0), CLEAR)]
            pictures += [dot(*sides, point, maker.pixel()) for point in points_of(*sides)]
            for picture in pictures:
                self.assertEqual(drawn_by(form, picture), done_all(picture, deeds))

    def test_all_grey_dots(self):
        for _, sides, deeds in plain_rows(112, 21):
            form = form_of(sides, deeds)
            for point in points_of(*sides):
                for pixel in GREYS:
                    picture = dot(*sides, point, pixel)
                    self.assertEqual(drawn_by(form, picture), done_all(picture, deeds))

    def test_sides_and_rows_of_all_sizes(self):
        maker = Maker(113)
        for sides in ((24, 24), (1, 24), (24, 1)):
            deeds = maker.plain_row(*sides, 6)
            picture = maker.picture(*sides)
            self.assertEqual(drawn_by(form_of(sides, deeds), picture), done_all(picture, deeds))
        deeds = maker.plain_row(3, 3, 40)
        picture = maker.picture(3, 3)
        self.assertEqual(drawn_by(form_of((3, 3), deeds), picture), done_all(picture, deeds))
        self.assertRaises(NotAllowed, form_of, (3, 3), deeds + deeds[:1])


class MainTheoremTests(unittest.TestCase):
    def test_the_same_form_just_if_all_pictures_become_the_same(self):
        same = 0
        for maker, sides, deeds in plain_rows(114, 120):
            for other in (self.other_row(maker, sides, deeds), maker.plain_row(*sides, maker.number(0, 2))):
                equal = form_of(sides, deeds) == form_of(sides, other)
                self.assertIs(equal, same_of_dots(sides, deeds, other))
                same += equal
        self.assertGreater(same, 40)

    def other_row(self, maker, sides, deeds):
        """A row that is nearly the same, and may make the same."""
        way = maker.number(0, 4)
        if way == 0:
            return deeds + (("flip",), ("flip",))
        if way == 1:
            return (("fall",),) + deeds + (("fall",),)
        if way == 2 and deeds:
            k = maker.number(0, len(deeds) - 1)
            return deeds[:k] + deeds[k + 1:]
        if way == 3 and len(deeds) > 1:
            k = maker.number(0, len(deeds) - 2)
            return deeds[:k] + (deeds[k + 1], deeds[k]) + deeds[k + 2:]
        return tuple(self.other_deed(deed) for deed in deeds)

    def other_deed(self, deed):
        if deed[0] == "erase":
            return ("fill", deed[1], CLEAR, "plain", 15) if deed[2] == 0 else deed
        if deed[0] == "fill":
            return deed[:3] + (MODES[(MODES.index(deed[3]) + 1) % 6],) + deed[4:]
        return deed

    def test_examples(self):
        same = [
            ((2, 2), (("flip",), ("fall",)), (("turn",), ("turn",))),
            ((2, 2), (("turn",),) * 4, ()),
            ((3, 1), (("fall",),), ()),
            ((2, 1), (("move", 1, 0), ("move", -1, 0)), (("erase", ((0, 1, 1),), 15),)),
            ((1, 1), (("erase", ((0, 0, 0),), 15),), (("move", 1, 0),)),
        ]
        for sides, first, second in same:
            self.assertEqual(form_of(sides, first), form_of(sides, second))
            self.assertRaises(Missing, least_picture, sides, first, second)
        for sides, first, second in (((2, 2), (("flip",),), (("fall",),)), ((3, 3), (("turn",),), (("turn",),) * 3)):
            self.assertNotEqual(form_of(sides, first), form_of(sides, second))

    def test_forms_behind_one_another(self):
        for maker, sides, deeds in plain_rows(115, 100):
            later = maker.plain_row(*sides, maker.number(0, 4))
            form, behind = form_of(sides, deeds), form_of(sides, later)
            self.assertEqual(form_behind(form, behind), form_of(sides, deeds + later))
            picture = maker.picture(*sides)
            self.assertEqual(drawn_by(form_behind(form, behind), picture), done_all(picture, deeds + later))


class BookTests(unittest.TestCase):
    """Forms by entries with numbers tell the same as forms by themselves."""

    def test_forms_there_and_back(self):
        for maker, sides, deeds in plain_rows(118, 100):
            book, later = FormBook(sides), maker.busy_row(*sides, 3)
            self.assertEqual(book.form(book.row(deeds)), form_of(sides, deeds))
            self.assertEqual(book.form(book.taken(form_of(sides, deeds))), form_of(sides, deeds))
            forms = [book.taken(deed_form(sides, deed)) for deed in deeds + later]
            self.assertEqual(book.form(book.all_behind(forms)), form_of(sides, deeds + later))
            self.assertEqual(book.form(book.put_behind(book.row(deeds), book.row(later))), form_of(sides, deeds + later))
            self.assertEqual(book.form(book.plain()), form_of(sides, ()))
            told = told_entries(form_of(sides, deeds + later))
            for at, point in enumerate(points_of(*sides)):
                self.assertEqual(book.point(at), point)
                self.assertEqual(book.told(book.entry_at(forms, at)), told[point])
                self.assertEqual(book.entry_at(forms, at), book.all_behind(forms)[at])

    def test_pictures_that_tell_two_entries_apart(self):
        found = 0
        for maker, sides, deeds in plain_rows(119, 120):
            other = maker.busy_row(*sides, 2) if maker.number(0, 1) else deeds[1:]
            one, rest = told_entries(form_of(sides, deeds)), told_entries(form_of(sides, other))
            for x, y in points_of(*sides):
                if one[(x, y)] != rest[(x, y)]:
                    found += 1
                    picture = picture_apart(sides, one[(x, y)], rest[(x, y)])
                    self.assertNotEqual(done_all(picture, deeds)[y][x], done_all(picture, other)[y][x])
        self.assertGreater(found, 150)


class LeastPictureTests(unittest.TestCase):
    def pairs(self, seed, many):
        for maker, sides, deeds in plain_rows(seed, many):
            other = deeds[:-1] if maker.number(0, 1) else maker.plain_row(*sides, maker.number(0, 3))
            if form_of(sides, deeds) != form_of(sides, other):
                yield maker, sides, deeds, other

    def test_examples(self):
        self.assertEqual(least_picture((2, 1), (("flip",),), ()), ((CLEAR, (0, 0, 0, 1)),))
        self.assertEqual(least_picture((2, 2), (("fall",),), (("flip",),)), ((CLEAR, CLEAR), (CLEAR, (0, 0, 0, 1))))
        self.assertEqual(least_picture((2, 2), (("fill", ((0, 0, 0),), RED, "plain", 1),), ()), ((CLEAR, CLEAR),) * 2)
        dot_at = ((0, 0, 0),)
        self.assertEqual(least_picture((2, 1), (("erase", dot_at, 1),), ()), (((0, 0, 0, 8), CLEAR),))
        greens = (KEEP, KEEP[:9] + (0,) * 7, KEEP, KEEP)
        self.assertEqual(least_picture((1, 1), (("tone", dot_at, greens),), ()), (((0, 9, 0, 1),),))
        reds = (KEEP[:15] + (0,), KEEP, KEEP, KEEP)
        self.assertEqual(least_picture((1, 1), (("tone", dot_at, reds),), ()), (((15, 0, 0, 1),),))
        self.assertEqual(least_picture((1, 1), (("tone", dot_at, reds),), (("tone", dot_at, greens),)), (((0, 9, 0, 1),),))

    def test_each_level_and_cover_can_tell_apart(self):
        only_full = (0,) * 15 + (15,)
        for k in range(3):
            for level in range(1, 16):
                table = tuple(0 if old == level else old for old in KEEP)
                for covers, cover in ((KEEP, 1), (only_full, 15)):
                    tables = (KEEP,) * k + (table,) + (KEEP,) * (2 - k) + (covers,)
                    wanted = [0, 0, 0, cover]
                    wanted[k] = level
                    first, second = (("tone", ((0, 0, 0),), tables),), (("tone", ((0, 0, 0),), (KEEP,) * 3 + (covers,)),)
                    self.assertEqual(least_picture((1, 1), first, second), ((tuple(wanted),),))
        for cover in range(1, 16):
            covers = tuple(16 - old if old == cover else old for old in KEEP)
            if covers != KEEP:
                deeds = (("tone", ((0, 0, 0),), (KEEP,) * 3 + (covers,)),)
                self.assertEqual(least_picture((1, 1), deeds, ()), (((0, 0, 0, cover),),))

    def test_the_least_one_of_several(self):
        copied = ("copy", ((0, 0, 0),), 1, 0)
        red = (KEEP[:9] + (0,) * 7, KEEP, KEEP, KEEP)
        blue = (KEEP, KEEP, KEEP[:5] + (0,) * 11, KEEP)
        least = (((0, 0, 5, 1), CLEAR),)
        for one, other in ((red, blue), (blue, red)):
            deeds = (copied, ("tone", ((0, 0, 0),), one), ("tone", ((0, 1, 1),), other))
            self.assertEqual(least_picture((2, 1), deeds, (copied,)), least)
            self.assertEqual(least_picture((2, 1), (copied,), deeds), least)
        # A later point comes first, even with a greater pixel.
        for turned in ((), (("flip",),)):
            at_last, at_first = (((0, 0, 0),), ((0, 1, 1),)) if turned else (((0, 1, 1),), ((0, 0, 0),))
            deeds = turned + (("tone", at_last, red), ("tone", at_first, blue))
            self.assertEqual(least_picture((2, 1), deeds, turned), ((CLEAR, (9, 0, 0, 1)),))

    def test_one_point(self):
        for _, sides, deeds, other in self.pairs(116, 350):
            if sides == (1, 1):
                wanted = next(
                    pixel for pixel in sorted(ALL_PIXELS)
                    if done_all(((pixel,),), deeds) != done_all(((pixel,),), other)
                )
                self.assertEqual(least_picture(sides, deeds, other), ((wanted,),))

    def test_it_tells_apart_and_no_lesser_one_does(self):
        for maker, sides, deeds, other in self.pairs(117, 100):
            least = least_picture(sides, deeds, other)
            self.assertNotEqual(done_all(least, deeds), done_all(least, other))
            pixels = [pixel for row in least for pixel in row if pixel != CLEAR]
            self.assertLessEqual(len(pixels), 1)
            for picture in self.lesser(maker, sides, least):
                self.assertLess(picture, least)
                self.assertEqual(done_all(picture, deeds), done_all(picture, other))

    def lesser(self, maker, sides, least):
        """Pictures ahead of one with a single pixel that is not clear."""
        points = points_of(*sides)
        places = [point for point in points if least[point[1]][point[0]] != CLEAR]
        if not places:
            return
        x, y = places[0]
        smaller = [pixel for pixel in SOME_PIXELS if pixel < least[y][x]]
        for point in points[points.index((x, y)) + 1:]:
            for pixel in SOME_PIXELS:
                yield dot(*sides, point, pixel)
        for pixel in smaller:
            yield dot(*sides, (x, y), pixel)
            picture = [list(row) for row in maker.picture(*sides)]
            for i, j in points[:points.index((x, y))]:
                picture[j][i] = CLEAR
            picture[y][x] = pixel
            yield tuple(tuple(row) for row in picture)


SOME_PIXELS = sorted(
    [CLEAR] + [(0, 0, 0, c) for c in KEEP[1:]] + [
        levels + (c,) for c in (1, 2, 7, 8, 15) for level in (1, 5, 8, 15)
        for levels in ((level, 0, 0), (0, level, 0), (0, 0, level), (level,) * 3, (3, level, 9))
    ]
)


if __name__ == "__main__":
    unittest.main()
