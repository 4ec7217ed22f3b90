"""[4.4] to [4.6]: rows that may be exchanged, one deed, needless deeds and the least part."""

import itertools
import unittest

from paintershouse.deeds import done_all
from paintershouse.errors import Missing, NotAllowed, TooLarge
from paintershouse.exchange import conflict, least_part, may_exchange, needless, one_deed
from paintershouse.forms import form_of
from paintershouse.pictures import differing, points_of
from tests.making import GREYS, Maker, dot, plain_region
from tests.test_deeds_errors import GOOD, wrong_deeds
from tests.test_forms import plain_rows
from tests.test_regions import WRONG_SIDES

CLEAR, RED = (0, 0, 0, 0), (15, 0, 0, 15)
KEEP, NONE = tuple(range(16)), (0,) * 16
LEFT, RIGHT = ("erase", ((0, 0, 0),), 15), ("erase", ((0, 1, 1),), 15)


def told_points(sides, first, second):
    """The points at which two rows make two different pixels, of some picture with one grey pixel at most."""
    points = set()
    for point in points_of(*sides):
        for pixel in GREYS:
            picture = dot(*sides, point, pixel)
            points |= set(differing(done_all(picture, first), done_all(picture, second)))
    return points


def plain_tone(sides, deeds):
    """The tone of [4.5], read off what a row makes of grey pixels, or None."""
    region = told_points(sides, deeds, ())
    told = [{}, {}, {}, {}]
    for x, y in region:
        for pixel in GREYS:
            made = done_all(dot(*sides, (x, y), pixel), deeds)[y][x]
            told[3].setdefault(pixel[3], set()).add(made[3])
            for k in range(3):
                if made[3]:
                    told[k].setdefault(pixel[k], set()).add(made[k])
    if any(len(levels) > 1 for table in told for levels in table.values()):
        return None
    tables = tuple(tuple(min(table.get(level, {0})) for level in range(16)) for table in told)
    return ("tone", plain_region(region), tables)


def plain_one_deed(sides, deeds):
    """The words of [4.5]: each deed in turn."""
    wide, high = sides
    candidates = [("flip",), ("fall",)] + [("turn",)] * (wide == high)
    candidates += [("move", x, y) for x in range(-wide, wide + 1) for y in range(-high, high + 1)]
    tone = plain_tone(sides, deeds)
    if tone is not None:
        candidates.append(tone)
    wanted = form_of(sides, deeds)
    for deed in candidates:
        if form_of(sides, (deed,)) == wanted:
            return deed
    return None


class WrongValues(unittest.TestCase):
    """What all functions of the file refuse."""

    calls = [
        (conflict, 2), (may_exchange, 2), (one_deed, 1), (needless, 1), (least_part, 1),
    ]

    def test_wrong_values(self):
        for call, rows in self.calls:
            for sides in WRONG_SIDES:
                self.assertRaises(NotAllowed, call, sides, *((),) * rows)
            wrong = [(deed,) for deed in wrong_deeds()][::7] + [
                (GOOD["mean"],), (GOOD["swell"],), (GOOD["flood"],), (("turn",),), (("flip",),) * 41,
            ]
            for deeds in wrong:
                self.assertRaises(NotAllowed, call, (2, 1), *(deeds,) * rows)
                if rows == 2:
                    self.assertRaises(NotAllowed, call, (2, 1), (), deeds)
                    self.assertRaises(NotAllowed, call, (2, 1), deeds, ())


class ConflictTests(unittest.TestCase):
    def test_plain_reading(self):
        exchanged = 0
        for maker, sides, first in plain_rows(121, 42):
            second = maker.plain_row(*sides, maker.number(0, 3))
            points = told_points(sides, first + second, second + first)
            self.assertEqual(conflict(sides, first, second), plain_region(points))
            self.assertIs(may_exchange(sides, first, second), not points)
            exchanged += not points
        self.assertGreater(exchanged, 7)

    def test_examples(self):
        self.assertIs(may_exchange((2, 1), (LEFT,), (RIGHT,)), True)
        self.assertIs(may_exchange((2, 1), (LEFT,), (("flip",),)), False)
        self.assertEqual(conflict((2, 1), (LEFT,), (("flip",),)), ((0, 0, 1),))
        self.assertEqual(conflict((3, 1), (LEFT,), (("move", 1, 0),)), ((0, 1, 1),))
        self.assertEqual(conflict((2, 2), (("flip",),), (("fall",),)), ())
        self.assertEqual(conflict((2, 2), (("flip",),), (("turn",),)), ((0, 0, 1), (1, 0, 1)))

    def test_long_rows(self):
        self.assertIs(may_exchange((2, 2), (("turn",),) * 40, (("flip",),) * 40), True)
        self.assertIs(may_exchange((2, 2), (("turn",),) * 39, (("flip",),) * 39), False)


class OneDeedTests(unittest.TestCase):
    def check(self, sides, deeds):
        wanted = plain_one_deed(sides, deeds)
        if wanted is None:
            self.assertRaises(Missing, one_deed, sides, deeds)
        else:
            self.assertEqual(one_deed(sides, deeds), wanted)
        return wanted

    def test_plain_reading(self):
        found = []
        for _, sides, deeds in plain_rows(122, 84):
            found.append((self.check(sides, deeds) or ("none",))[0])
        for word in ("none", "move", "tone", "flip"):
            self.assertIn(word, found)

    def test_rows_that_are_one_deed(self):
        maker = Maker(123)
        for sides in ((1, 1), (2, 1), (1, 3), (2, 2), (3, 2)):
            region = plain_region(maker.points(*sides, 60))
            for deeds in (
                (), (("flip",),), (("fall",),), (("flip",), ("fall",)), (("move", 1, 0),), (("move", 0, -1),),
                (("move", 1, 0), ("move", -1, 0)), (("move", 9, 0),), (("move", 0, -24),), (("erase", region, 9),),
                (("erase", region, 15),), (("fill", region, RED, "plain", 15),), (("fill", region, RED, "plain", 3),),
                (("fill", region, RED, "times", 15),), (("tone", region, maker.tables()),),
                (("tone", region, maker.shuffled_tables()),), (("tone", region, (KEEP, NONE, KEEP, (0,) * 15 + (3,))),),
                (("tone", region, (KEEP, KEEP, KEEP, (5,) + (0,) * 15)),), (("fill", region, CLEAR, "plain", 15),),
                (("tone", region, ((7,) * 16,) * 3 + ((5,) + (0,) * 15,)),),
                (("copy", region, 1, 0),), (("erase", region, 4), ("erase", region, 4)),
                (("tone", region, (KEEP[::-1], KEEP, (7,) * 16, (0, 1) + (0,) * 14)),),
                (("tone", region, (KEEP[::-1], KEEP, (7,) * 16, (0, 9) + (0,) * 14)),),
                (("tone", region, (KEEP[::-1], KEEP, (7,) * 16, (0,) * 15 + (1,))),),
            ):
                self.check(sides, deeds)
            if sides[0] == sides[1]:
                for many in range(5):
                    self.check(sides, (("turn",),) * many)

    def test_the_first_one(self):
        self.assertEqual(one_deed((3, 2), ()), ("move", 0, 0))
        self.assertEqual(one_deed((1, 2), ()), ("flip",))
        self.assertEqual(one_deed((2, 1), ()), ("fall",))
        self.assertEqual(one_deed((3, 2), (("move", 5, 0),)), ("move", -3, -2))
        self.assertEqual(one_deed((3, 2), (("erase", ((0, 0, 2), (1, 0, 2)), 15),)), ("move", -3, -2))
        self.assertEqual(one_deed((24, 24), (("move", 24, 0),)), ("move", -24, -24))
        self.assertEqual(one_deed((24, 24), (("move", -23, 5),)), ("move", -23, 5))
        self.assertEqual(one_deed((2, 2), (("flip",), ("turn",), ("turn",))), ("fall",))
        self.assertEqual(one_deed((2, 2), (("flip",), ("turn",), ("flip",), ("turn",), ("turn",))), ("turn",))
        self.assertRaises(Missing, one_deed, (2, 2), (("turn",), ("turn",), ("turn",)))

    def test_levels_of_which_no_picture_tells_anything(self):
        low = (5,) + (0,) * 15
        deeds = (("tone", ((0, 0, 23),), ((7,) * 16, (6,) * 16, KEEP, low)),)
        self.assertEqual(one_deed((2, 1), deeds), ("tone", ((0, 0, 1),), ((7,) + NONE[1:], (6,) + NONE[1:], NONE, low)))


class PartsTests(unittest.TestCase):
    def test_plain_reading(self):
        for maker, sides, deeds in plain_rows(124, 49):
            deeds = deeds[:5] + maker.one_of(((), deeds[:1], deeds[1:2]))
            wanted = form_of(sides, deeds)
            self.assertEqual(needless(sides, deeds), [
                k for k in range(len(deeds)) if form_of(sides, deeds[:k] + deeds[k + 1:]) == wanted
            ])
            parts = (
                part for many in range(len(deeds) + 1) for part in itertools.combinations(range(len(deeds)), many)
            )
            least = next(part for part in parts if form_of(sides, tuple(deeds[k] for k in part)) == wanted)
            self.assertEqual(least_part(sides, deeds), least)

    def test_examples(self):
        self.assertEqual(needless((2, 1), (LEFT, LEFT, RIGHT)), [0, 1])
        self.assertEqual(least_part((2, 1), (LEFT, LEFT, RIGHT)), (0, 2))
        self.assertEqual(needless((3, 1), (LEFT, RIGHT)), [])
        self.assertEqual(needless((3, 1), ()), [])
        self.assertEqual(least_part((3, 1), ()), ())
        self.assertEqual(needless((3, 1), (("flip",), ("flip",))), [])
        self.assertEqual(least_part((3, 1), (("flip",), ("flip",))), ())
        self.assertEqual(least_part((2, 1), (LEFT, ("flip",), LEFT, ("flip",), RIGHT)), (0, 4))

    def test_how_many_deeds(self):
        ten = (("flip",),) * 10
        self.assertEqual(least_part((2, 1), ten), ())
        self.assertEqual(least_part((2, 1), ten[:9]), (0,))
        self.assertRaises(TooLarge, least_part, (2, 1), ten + ten[:1])
        self.assertRaises(NotAllowed, least_part, (2, 1), ten + (("turn",),))
        self.assertRaises(NotAllowed, least_part, (25, 1), ten + ten)
        self.assertEqual(needless((2, 2), (("move", 0, 0),) * 40), list(range(40)))

    def test_the_list_is_new(self):
        needless((2, 1), (LEFT, LEFT)).clear()
        self.assertEqual(needless((2, 1), (LEFT, LEFT)), [0, 1])


if __name__ == "__main__":
    unittest.main()
