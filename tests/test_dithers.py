"""[10.5] and [10.6]: thresholds, ordered grey pictures, carried ones and what is lost, with their theorems."""

import unittest

from paintershouse.dithers import MAX_ORDER, carried, ordered, thresholds
from paintershouse.errors import NotAllowed
from tests.making import Maker
from tests.test_scales import ALL, WRONG_GREYS, WRONG_SCALES

SCALES = ((0, 15), (0,), (15,), (7,), (3, 11), (0, 1, 15), (0, 5, 10, 15), ALL, (2, 3, 9))


def made_greys(seed, many):
    maker = Maker(seed)
    for _ in range(many):
        wide, high = maker.number(1, 9), maker.number(1, 9)
        picture = tuple(tuple(maker.number(0, 15) for _ in range(wide)) for _ in range(high))
        scale = tuple(level for level in range(16) if maker.number(0, 3) == 0) or (maker.number(0, 15),)
        yield maker, picture, scale


def plain_threshold(n, x, y):
    """The threshold of order n, from the greatest square to the least one."""
    if n == 0:
        return 0
    half = 2 ** (n - 1)
    more = {(0, 0): 0, (1, 0): 2, (0, 1): 3, (1, 1): 1}[(x // half, y // half)]
    return 4 * plain_threshold(n - 1, x % half, y % half) + more


def plain_ordered(picture, scale, n):
    side, rows = 2 ** n, []
    for y, row in enumerate(picture):
        made = []
        for x, level in enumerate(row):
            if level <= scale[0]:
                made.append(scale[0])
            elif level >= scale[-1]:
                made.append(scale[-1])
            else:
                a, b = max(s for s in scale if s <= level), min(s for s in scale if s > level)
                made.append(b if (level - a) * side * side > plain_threshold(n, x % side, y % side) * (b - a) else a)
        rows.append(tuple(made))
    return tuple(rows)


def plain_carried(picture, scale):
    """[10.6] with what is carried in a dict of all points, outside ones, too."""
    wide, high, there, rows = len(picture[0]), len(picture), {}, []
    for y in range(high):
        row = []
        for x in range(wide):
            value = 16 * picture[y][x] + there.get((x, y), 0)
            step = min(scale, key=lambda s: abs(16 * s - value))
            row.append(step)
            e = value - 16 * step
            parts = [((x + 1, y), 7 * e // 16), ((x - 1, y + 1), 3 * e // 16), ((x, y + 1), 5 * e // 16)]
            parts.append(((x + 1, y + 1), e - sum(part for _, part in parts)))
            for point, part in parts:
                there[point] = there.get(point, 0) + part
        rows.append(tuple(row))
    lost = sum(part for (x, y), part in there.items() if not (0 <= x < wide and 0 <= y < high))
    return tuple(rows), lost


class ThresholdTests(unittest.TestCase):
    def test_each_order(self):
        self.assertEqual(MAX_ORDER, 3)
        self.assertEqual(thresholds(0), ((0,),))
        self.assertEqual(thresholds(1), ((0, 2), (3, 1)))
        self.assertEqual(thresholds(2), ((0, 8, 2, 10), (12, 4, 14, 6), (3, 11, 1, 9), (15, 7, 13, 5)))
        for n in range(4):
            side = 2 ** n
            square = thresholds(n)
            self.assertEqual(square, tuple(tuple(plain_threshold(n, x, y) for x in range(side)) for y in range(side)))
            self.assertEqual(sorted(number for row in square for number in row), list(range(side * side)))

    def test_wrong_orders(self):
        for n in (-1, 4, 5, 100):
            self.assertRaises(NotAllowed, thresholds, n)
            self.assertRaises(NotAllowed, ordered, ((0,),), (0, 15), n)


class OrderedTests(unittest.TestCase):
    def test_the_plain_reading(self):
        for maker, picture, scale in made_greys(421, 150):
            for n in range(4):
                for steps in (scale, maker.one_of(SCALES)):
                    self.assertEqual(ordered(picture, steps, n), plain_ordered(picture, steps, n))

    def test_how_often_the_greater_one_comes(self):
        """The theorem of [10.5], for all levels."""
        for scale in SCALES:
            for n in range(4):
                side = 2 ** n
                for level in range(16):
                    made = ordered(((level,) * side,) * side, scale, n)
                    found = [step for row in made for step in row]
                    if level <= scale[0] or level >= scale[-1]:
                        self.assertEqual(set(found), {scale[0] if level <= scale[0] else scale[-1]})
                        continue
                    a, b = max(s for s in scale if s <= level), min(s for s in scale if s > level)
                    self.assertEqual(found.count(b), -(-(level - a) * side * side // (b - a)))
                    self.assertEqual(found.count(a) + found.count(b), side * side)

    def test_squares_that_begin_anywhere(self):
        for n in (1, 2, 3):
            side = 2 ** n
            made = ordered(((6,) * 24,) * 24, (2, 13), n)
            for left in range(0, 24 - side, 3):
                for top in range(0, 24 - side, 5):
                    square = [made[y][x] for y in range(top, top + side) for x in range(left, left + side)]
                    self.assertEqual(square.count(13), -(-4 * side * side // 11))

    def test_ties_and_ends(self):
        # With the order 0, all levels above a step of the scale become the next one.
        self.assertEqual(ordered((ALL,), (3, 9), 0), ((3,) * 4 + (9,) * 12,))
        self.assertEqual(ordered((ALL,), ALL, 2), (ALL,))
        self.assertEqual(ordered((ALL,), (7,), 3), ((7,) * 16,))
        # (l - a) * m is t * (b - a) here: it becomes the lesser one.
        self.assertEqual(ordered(((5, 5), (5, 5)), (0, 10), 1), ((10, 0), (0, 10)))
        self.assertEqual(ordered(((5, 5, 5, 5), (5, 5, 5, 5)), (0, 15), 1), ((15, 0, 15, 0), (0, 15, 0, 15)))

    def test_wrong_values(self):
        for picture in WRONG_GREYS:
            self.assertRaises(NotAllowed, ordered, picture, (0, 15), 1)
            self.assertRaises(NotAllowed, carried, picture, (0, 15))
        for scale in WRONG_SCALES:
            self.assertRaises(NotAllowed, ordered, ((0,),), scale, 1)
            self.assertRaises(NotAllowed, carried, ((0,),), scale)


class CarriedTests(unittest.TestCase):
    def test_the_plain_reading_and_the_theorem(self):
        for maker, picture, scale in made_greys(422, 200):
            for steps in (scale, maker.one_of(SCALES)):
                made, lost = carried(picture, steps)
                self.assertEqual((made, lost), plain_carried(picture, steps))
                self.assertEqual(16 * sum(map(sum, picture)), 16 * sum(map(sum, made)) + lost)
                self.assertTrue(all(step in steps for row in made for step in row))

    def test_great_pictures(self):
        maker = Maker(423)
        picture = tuple(tuple(maker.number(0, 15) for _ in range(24)) for _ in range(24))
        for scale in SCALES:
            self.assertEqual(carried(picture, scale), plain_carried(picture, scale))

    def test_ties(self):
        # 16 * 6 is as far from 16 * 4 as from 16 * 8: the least one.
        self.assertEqual(carried(((6,),), (4, 8)), (((4,),), 32))
        self.assertEqual(carried(((6,),), (4, 9)), (((4,),), 32))
        self.assertEqual(carried(((7,),), (4, 9)), (((9,),), -32))
        self.assertEqual(carried(((6, 6),), (0, 15)), (((0, 15),), -48))

    def test_one_level_and_all(self):
        self.assertEqual(carried(((3,), (3,)), ALL), (((3,), (3,)), 0))
        made, lost = carried(((1, 2), (3, 4)), (0,))
        self.assertEqual((made, lost), (((0, 0), (0, 0)), 160))
        made, lost = carried(((15,) * 5,) * 3, (15,))
        self.assertEqual((made, lost), (((15,) * 5,) * 3, 0))

    def test_parts_below_zero(self):
        # What is left over is -48: 7 * -48 // 16, 3 * -48 // 16, 5 * -48 // 16, and the rest; then roundings go down.
        self.assertEqual(carried(((12, 0), (0, 0)), (0, 15)), plain_carried(((12, 0), (0, 0)), (0, 15)))
        made, lost = carried(((14,),), (15,))
        self.assertEqual((made, lost), (((15,),), -16))
        self.assertEqual(carried(((14, 0, 0, 0),), (0, 15)), (((15, 0, 0, 0),), -16))


if __name__ == "__main__":
    unittest.main()
