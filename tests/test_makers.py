"""[8.6]: the makers of points, and their origins."""

import unittest

from paintershouse.deeds import done_all
from paintershouse.errors import NotAllowed
from paintershouse.forms import form_of, told_entries
from paintershouse.makers import made_by_deed, makers, origin
from paintershouse.pictures import points_of
from paintershouse.regions import points_in
from tests.making import Maker, dot
from tests.test_deeds_errors import GOOD, wrong_deeds
from tests.test_regions import WRONG_SIDES

CLEAR, RED, BLUE = (0, 0, 0, 0), (15, 0, 0, 15), (0, 0, 15, 15)
SIDES = [(1, 1), (2, 1), (1, 3), (2, 2), (3, 2), (3, 3), (4, 2)]


def made_rows(seed, many, most):
    maker = Maker(seed)
    for k in range(many):
        sides = SIDES[k % len(SIDES)]
        row = maker.plain_row if k % 3 == 0 else maker.busy_row
        yield maker, sides, row(*sides, maker.number(0, most))


def plain_makers(sides, deeds):
    """The makers of each point, by the forms of the row and of all rows without one deed."""
    whole = told_entries(form_of(sides, deeds))
    without = [told_entries(form_of(sides, deeds[:k] + deeds[k + 1:])) for k in range(len(deeds))]
    return {point: [k for k, told in enumerate(without) if told[point] != whole[point]] for point in whole}


class MakersTests(unittest.TestCase):
    def test_the_plain_reading(self):
        found = 0
        for _, sides, deeds in made_rows(241, 200, 6):
            wanted = plain_makers(sides, deeds)
            for point in points_of(*sides):
                self.assertEqual(makers(sides, deeds, point), wanted[point])
                found += len(wanted[point])
            for k in range(len(deeds)):
                region = made_by_deed(sides, deeds, k)
                self.assertEqual(points_in(region), [point for point in points_of(*sides) if k in wanted[point]])
        self.assertGreater(found, 900)

    def test_what_is_no_maker_does_not_matter(self):
        for maker, sides, deeds in made_rows(242, 80, 5):
            pictures = [maker.picture(*sides) for _ in range(3)]
            pictures += [dot(*sides, point, maker.pixel()) for point in points_of(*sides)]
            for k in range(len(deeds)):
                region = points_in(made_by_deed(sides, deeds, k))
                for picture in pictures:
                    one, other = done_all(picture, deeds), done_all(picture, deeds[:k] + deeds[k + 1:])
                    for x, y in points_of(*sides):
                        self.assertTrue(one[y][x] == other[y][x] or (x, y) in region)

    def test_examples(self):
        black = ("fill", ((0, 0, 1),), (0, 0, 0, 15), "plain", 15)
        white = ("fill", ((0, 1, 2),), (15, 15, 15, 15), "plain", 15)
        self.assertEqual(makers((3, 1), (black, white, ("flip",)), (1, 0)), [1])
        self.assertEqual(makers((3, 1), (black, white, ("flip",)), (0, 0)), [1, 2])
        self.assertEqual(makers((3, 1), (black, white, ("flip",)), (2, 0)), [0, 2])
        self.assertEqual(made_by_deed((3, 1), (black, white), 0), ((0, 0, 0),))
        self.assertEqual(made_by_deed((3, 1), (black, white), 1), ((0, 1, 2),))
        # The same deed twice: either one may be left out.
        self.assertEqual(makers((3, 1), (black, black), (0, 0)), [])
        self.assertEqual(made_by_deed((3, 1), (black, black), 1), ())
        self.assertEqual(makers((2, 1), (("flip",), ("flip",)), (0, 0)), [0, 1])

    def test_points_that_are_fixed(self):
        red, blue = ("fill", ((0, 0, 0),), RED, "plain", 15), ("fill", ((0, 0, 0),), BLUE, "plain", 15)
        half = ("fill", ((0, 0, 0),), BLUE, "plain", 8)
        self.assertEqual(makers((1, 1), (red, blue), (0, 0)), [1])
        self.assertEqual(makers((1, 1), (red, half), (0, 0)), [0, 1])
        self.assertEqual(makers((1, 1), (half, red, half), (0, 0)), [1, 2])
        self.assertEqual(makers((1, 1), (red, ("erase", ((0, 0, 0),), 15)), (0, 0)), [1])
        self.assertEqual(makers((2, 1), (red, ("move", 1, 0)), (0, 0)), [1])
        self.assertEqual(makers((2, 1), (red, ("move", 1, 0)), (1, 0)), [0, 1])
        self.assertEqual(made_by_deed((2, 1), (red, ("move", 1, 0)), 1), ((0, 0, 1),))

    def test_no_deeds_and_forty(self):
        self.assertEqual(makers((3, 1), (), (2, 0)), [])
        self.assertEqual(makers((2, 1), (("flip",),) * 40, (0, 0)), list(range(40)))
        self.assertEqual(made_by_deed((2, 1), (("flip",),) * 40, 39), ((0, 0, 1),))
        self.assertEqual(makers((3, 1), (("flip",),) * 40, (1, 0)), [])


class OriginTests(unittest.TestCase):
    def test_the_plain_reading(self):
        fixed = 0
        for _, sides, deeds in made_rows(243, 200, 6):
            _, rows = form_of(sides, deeds)
            for x, y in points_of(*sides):
                entry = rows[y][x]
                wanted = entry[:2] if len(entry) == 3 else None
                fixed += wanted is None
                self.assertEqual(origin(sides, deeds, (x, y)), wanted)
        self.assertGreater(fixed, 60)

    def test_examples(self):
        red = ("fill", ((0, 0, 0),), RED, "plain", 15)
        self.assertEqual(origin((3, 1), (red, ("flip",)), (0, 0)), (2, 0))
        self.assertIsNone(origin((3, 1), (red, ("flip",)), (2, 0)))
        self.assertIsNone(origin((3, 1), (("move", 1, 0),), (0, 0)))
        self.assertEqual(origin((3, 2), (), (2, 1)), (2, 1))
        self.assertEqual(origin((2, 2), (("turn",),), (0, 0)), (0, 1))
        self.assertEqual(origin((2, 1), (("copy", ((0, 0, 0),), 1, 0),), (1, 0)), (0, 0))


class WrongValuesTests(unittest.TestCase):
    def refused(self, sides, deeds, point=(0, 0), index=0):
        if index == 0:
            self.assertRaises(NotAllowed, makers, sides, deeds, point)
            self.assertRaises(NotAllowed, origin, sides, deeds, point)
        if point == (0, 0):
            self.assertRaises(NotAllowed, made_by_deed, sides, deeds, index)

    def test_sides_and_rows(self):
        for sides in WRONG_SIDES:
            self.refused(sides, (("flip",),))
        for deed in wrong_deeds():
            self.refused((2, 1), (deed,))
            self.refused((2, 1), (("flip",), deed))
        for deeds in ((GOOD["mean"],), (GOOD["swell"],), (GOOD["flood"],), (("turn",),), (("flip",),) * 41):
            self.refused((2, 1), deeds)

    def test_points_and_indexes(self):
        for point in ((-1, 0), (2, 0), (0, 1), (0, -1), (24, 24)):
            self.refused((2, 1), (("flip",),), point)
        for index in (-1, 1, 2, 40):
            self.refused((2, 1), (("flip",),), index=index)
        self.assertRaises(NotAllowed, made_by_deed, (2, 1), (), 0)


if __name__ == "__main__":
    unittest.main()
