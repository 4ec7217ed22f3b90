"""[2.12]: the step of two pixels, and what is flooded."""

import unittest

from paintershouse.errors import NotAllowed
from paintershouse.flooding import flooded, step_between
from paintershouse.pictures import points_of
from tests.making import Maker, plain_region
from tests.test_parts import plain_parts

BLACK, GREY, NONE = (0, 0, 0, 15), (6, 6, 6, 15), (0, 0, 0, 0)
BOARD = ((BLACK, GREY), (GREY, BLACK))
WRONG_WAYS = (0, 1, -4, 3, 5, 6, 7, 9, 12, 48)


def coarse_picture(maker, wide, high):
    """A picture of few colours, some of them near each other, clear ones among them."""
    colours = (NONE, (0, 0, 0, 1), (1, 0, 0, 2), (3, 3, 2, 4), (9, 9, 9, 15), (9, 12, 9, 15))
    return tuple(tuple(colours[maker.number(0, maker.number(1, 5))] for _ in range(wide)) for _ in range(high))


class StepTests(unittest.TestCase):
    def test_answers(self):
        for first, second, step in (
            (NONE, NONE, 0), (BLACK, NONE, 15), (BLACK, GREY, 6), ((1, 2, 3, 4), (1, 2, 3, 4), 0),
            ((1, 2, 3, 4), (9, 2, 3, 4), 8), ((1, 9, 3, 4), (1, 2, 3, 4), 7), ((1, 2, 3, 4), (1, 2, 8, 4), 5),
            ((1, 2, 3, 4), (1, 2, 3, 15), 11), ((0, 15, 3, 4), (2, 11, 0, 5), 4), ((15, 0, 0, 1), NONE, 15),
        ):
            self.assertEqual(step_between(first, second), step)
            self.assertEqual(step_between(second, first), step)


class FloodedTests(unittest.TestCase):
    def test_ways_and_tolerances(self):
        self.assertEqual(flooded(BOARD, (0, 0), 5, 4), ((0, 0, 0),))
        self.assertEqual(flooded(BOARD, (0, 0), 5, 8), ((0, 0, 0), (1, 1, 1)))
        self.assertEqual(flooded(BOARD, (1, 0), 0, 8), ((0, 1, 1), (1, 0, 0)))
        self.assertEqual(flooded(BOARD, (0, 0), 6, 4), ((0, 0, 1), (1, 0, 1)))
        self.assertEqual(flooded(((BLACK,),), (0, 0), 0, 4), ((0, 0, 0),))

    def test_the_step_is_from_the_first_point(self):
        row = (tuple((k, 0, 0, 15) for k in range(10)),)
        self.assertEqual(flooded(row, (0, 0), 3, 4), ((0, 0, 3),))
        self.assertEqual(flooded(row, (5, 0), 2, 4), ((0, 3, 7),))
        self.assertEqual(flooded(row, (9, 0), 15, 8), ((0, 0, 9),))

    def test_clear_pixels(self):
        picture = ((NONE, (0, 0, 0, 1), NONE), (BLACK, NONE, NONE))
        self.assertEqual(flooded(picture, (0, 0), 0, 4), ((0, 0, 0),))
        self.assertEqual(flooded(picture, (0, 0), 0, 8), ((0, 0, 0), (0, 2, 2), (1, 1, 2)))
        self.assertEqual(flooded(picture, (0, 0), 1, 4), ((0, 0, 2), (1, 1, 2)))
        self.assertEqual(flooded(picture, (0, 0), 15, 4), ((0, 0, 2), (1, 0, 2)))

    def test_plain_reading(self):
        maker = Maker(212)
        for wide, high in ((1, 1), (1, 24), (24, 1), (3, 3), (6, 4), (8, 8)) * 3:
            picture = coarse_picture(maker, wide, high)
            for ways in (4, 8):
                for tolerance in (0, 1, 2, 4, 9, 15):
                    x, y = maker.number(0, wide - 1), maker.number(0, high - 1)
                    alike = {
                        (a, b) for a, b in points_of(wide, high)
                        if all(abs(one - other) <= tolerance for one, other in zip(picture[b][a], picture[y][x]))
                    }
                    wanted = next(part for part in plain_parts(alike, ways) if (x, y) in part)
                    self.assertEqual(flooded(picture, (x, y), tolerance, ways), plain_region(wanted))


class ErrorsTests(unittest.TestCase):
    def test_points(self):
        for point in ((-1, 0), (0, -1), (2, 0), (0, 2), (23, 23), (10 ** 12, 0)):
            self.assertRaises(NotAllowed, flooded, BOARD, point, 0, 4)
        self.assertRaises(NotAllowed, flooded, ((BLACK, BLACK, BLACK),), (0, 2), 0, 4)
        self.assertEqual(flooded(((BLACK, BLACK, BLACK),), (2, 0), 0, 4), ((0, 0, 2),))

    def test_tolerances(self):
        for tolerance in (-1, 16, -15, 1000):
            self.assertRaises(NotAllowed, flooded, BOARD, (0, 0), tolerance, 4)

    def test_ways(self):
        for ways in WRONG_WAYS:
            self.assertRaises(NotAllowed, flooded, BOARD, (0, 0), 0, ways)


if __name__ == "__main__":
    unittest.main()
