"""[8.7]: deeds that are carried over movers, with the theorem."""

import unittest

from paintershouse.deeds import done_all
from paintershouse.errors import NotAllowed
from paintershouse.forms import form_of
from paintershouse.rebasing import MOVERS, carried_over, rebased
from paintershouse.regions import region_of
from paintershouse.strokes import stroke_region
from tests.making import Maker
from tests.test_deeds_errors import GOOD, wrong_deeds
from tests.test_regions import WRONG_SIDES

RED = (15, 0, 0, 15)
SIDES = [(1, 1), (2, 1), (1, 3), (2, 2), (3, 2), (3, 3), (4, 4), (5, 2)]
PAINT = (RED, "times", 9)
L = ((0, 0, 1), (1, 0, 0))


def made_rows(seed, many):
    """Sides, rows of pointwise deeds, and movers."""
    maker = Maker(seed)
    for k in range(many):
        sides = SIDES[k % len(SIDES)]
        words = ("flip", "fall", "move", "turn") if sides[0] == sides[1] else ("flip", "fall", "move")
        deeds = tuple(maker.deed(maker.one_of(("fill", "erase", "tone", "stroke")), *sides) for _ in range(maker.number(0, 4)))
        movers = tuple(maker.deed(maker.one_of(words), *sides) for _ in range(maker.number(0, 3)))
        yield maker, sides, deeds, movers


class CarriedTests(unittest.TestCase):
    def test_names(self):
        self.assertEqual(MOVERS, ("flip", "fall", "turn", "move"))

    def test_regions(self):
        wanted = {
            ("flip",): ((0, 1, 2), (1, 2, 2)), ("fall",): ((1, 0, 0), (2, 0, 1)), ("turn",): ((0, 1, 2), (1, 2, 2)),
            ("move", 0, 0): L, ("move", 1, 1): ((1, 1, 2), (2, 1, 1)), ("move", 2, 0): ((0, 2, 2), (1, 2, 2)),
            ("move", -1, 0): ((0, 0, 0),), ("move", 0, -1): ((0, 0, 0),), ("move", 3, 0): (), ("move", -24, 24): (),
        }
        for mover, region in wanted.items():
            self.assertEqual(carried_over((3, 3), ("fill", L) + PAINT, mover), ("fill", region) + PAINT)
            self.assertEqual(carried_over((3, 3), ("erase", L, 7), mover), ("erase", region, 7))
            tables = GOOD["tone"][2]
            self.assertEqual(carried_over((3, 3), ("tone", L, tables), mover), ("tone", region, tables))

    def test_points_beyond_the_sides_are_left_out(self):
        far = ((0, 0, 0), (0, 2, 23), (5, 0, 3))
        self.assertEqual(carried_over((2, 2), ("erase", far, 7), ("flip",)), ("erase", ((0, 1, 1),), 7))
        self.assertEqual(carried_over((2, 2), ("erase", far, 7), ("move", -2, 0)), ("erase", (), 7))
        self.assertEqual(carried_over((2, 2), ("erase", far, 7), ("move", 0, 0)), ("erase", ((0, 0, 0),), 7))
        self.assertEqual(carried_over((3, 1), ("erase", (), 7), ("flip",)), ("erase", (), 7))

    def test_strokes_become_fills(self):
        stroke = ("stroke", ((0, 0), (4, 2)), ("square", 1)) + PAINT
        region = region_of([(4 - x, y) for y, first, last in stroke_region(*stroke[1:3]) for x in range(first, min(last, 4) + 1) if y < 3])
        self.assertEqual(carried_over((5, 3), stroke, ("flip",)), ("fill", region) + PAINT)
        outside = ("stroke", ((40, 40), (48, -24)), ("round", 3)) + PAINT
        self.assertEqual(carried_over((5, 3), outside, ("fall",)), ("fill", ()) + PAINT)
        dot = ("stroke", ((1, 0),), ("round", 0)) + PAINT
        self.assertEqual(carried_over((2, 2), dot, ("turn",)), ("fill", ((1, 1, 1),)) + PAINT)

    def test_behind_a_mover_it_does_what_the_deed_does_ahead(self):
        for maker, sides, deeds, movers in made_rows(251, 200):
            for deed in deeds:
                for mover in movers:
                    carried = carried_over(sides, deed, mover)
                    self.assertEqual(form_of(sides, (deed, mover)), form_of(sides, (mover, carried)))
                    self.assertNotEqual(carried[0], "stroke")


class TheoremTests(unittest.TestCase):
    def test_for_all_pictures(self):
        for maker, sides, deeds, movers in made_rows(252, 300):
            row = rebased(sides, deeds, movers)
            self.assertEqual(len(row), len(deeds))
            self.assertEqual(form_of(sides, deeds + movers), form_of(sides, movers + row))
            for _ in range(3):
                picture = maker.picture(*sides)
                self.assertEqual(done_all(picture, deeds + movers), done_all(picture, movers + row))

    def test_one_after_another(self):
        for _, sides, deeds, movers in made_rows(253, 100):
            row = deeds
            for mover in movers:
                row = tuple(carried_over(sides, deed, mover) for deed in row)
            self.assertEqual(rebased(sides, deeds, movers), row)

    def test_rows_without_deeds_and_without_movers(self):
        stroke = ("stroke", ((0, 0), (4, 2)), ("square", 1)) + PAINT
        self.assertEqual(rebased((3, 1), (), (("flip",),)), ())
        self.assertEqual(rebased((3, 1), (stroke, ("erase", ((5, 5, 5),), 1)), ()), (stroke, ("erase", ((5, 5, 5),), 1)))
        self.assertEqual(rebased((3, 1), (), ()), ())

    def test_great_rows(self):
        deeds = (("erase", L, 1),) * 40
        self.assertEqual(rebased((24, 24), deeds, (("turn",),) * 40), deeds)
        self.assertEqual(rebased((24, 24), deeds, (("flip",),) * 39), (("erase", ((0, 22, 23), (1, 23, 23)), 1),) * 40)


class WrongValuesTests(unittest.TestCase):
    def refused(self, sides, deed, mover):
        self.assertRaises(NotAllowed, carried_over, sides, deed, mover)
        self.assertRaises(NotAllowed, rebased, sides, (deed,), (mover,))

    def test_deeds(self):
        good = ("erase", L, 1)
        for deed in list(wrong_deeds()) + [GOOD[word] for word in ("move", "flip", "fall", "turn", "copy", "mean", "swell", "flood")]:
            self.refused((2, 2), deed, ("flip",))
            self.assertRaises(NotAllowed, rebased, (2, 2), (good, deed), (("flip",),))
            self.assertRaises(NotAllowed, rebased, (2, 2), (deed,), ())

    def test_movers(self):
        good = ("erase", L, 1)
        for mover in list(wrong_deeds()) + [GOOD[word] for word in ("fill", "erase", "tone", "stroke", "copy", "mean", "swell", "flood")]:
            self.refused((2, 2), good, mover)
            self.assertRaises(NotAllowed, rebased, (2, 2), (), (("flip",), mover))
        self.refused((2, 1), good, ("turn",))
        self.refused((2, 1), good, ("move", 25, 0))
        self.assertRaises(NotAllowed, rebased, (1, 2), (), (("turn",),))

    def test_sides_and_rows(self):
        for sides in WRONG_SIDES:
            self.refused(sides, ("erase", (), 1), ("flip",))
            self.assertRaises(NotAllowed, rebased, sides, (), ())
        self.assertRaises(NotAllowed, rebased, (2, 2), (("erase", (), 1),) * 41, ())
        self.assertRaises(NotAllowed, rebased, (2, 2), (), (("flip",),) * 41)


if __name__ == "__main__":
    unittest.main()
