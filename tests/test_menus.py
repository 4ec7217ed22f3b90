"""[4.10] and [4.11]: menus, the least row of a menu, and layers papers."""

import itertools
import unittest

from paintershouse.errors import Missing, NotAllowed, TooLarge
from paintershouse.forms import form_of
from paintershouse.menus import judge_layers, layers_paper, least_of_menu
from tests.making import Maker
from tests.test_deeds_errors import GOOD, wrong_deeds
from tests.test_regions import WRONG_SIDES

RED = (15, 0, 0, 15)
KEEP = tuple(range(16))
CARRIERS = (("flip",), ("fall",), ("turn",))


def cycle(at, many):
    """A deed at the point (at, 0) that leads around so many levels of red."""
    table = tuple((level + 1) % many if level < many else level for level in KEEP)
    return ("tone", ((0, at, at),), (table, KEEP, KEEP, KEEP))


def cycles(*many):
    return tuple(cycle(at, k) for at, k in enumerate(many))


# With at most four deeds these menus have just 200 and 201 forms.
JUST, MORE = cycles(3, 4, 4, 4, 5, 5), cycles(3, 4, 4, 5, 5, 5)
WIDE = (6, 1)


def plain_rows_of(menu, most):
    for many in range(most + 1):
        yield from itertools.product(range(len(menu)), repeat=many)


def plain_least(sides, menu, deeds, most):
    wanted = form_of(sides, deeds)
    for row in plain_rows_of(menu, most):
        if form_of(sides, tuple(menu[k] for k in row)) == wanted:
            return row
    return None


def plain_right(sides, menu, paper):
    """The words of [4.11]."""
    def form(row):
        return form_of(sides, tuple(menu[k] for k in row))
    if not paper or paper[0] != ((),):
        return False
    for many, rows in enumerate(paper):
        for row in rows:
            if len(row) != many or any(k not in range(len(menu)) for k in row):
                return False
    for many, rows in enumerate(paper[:-1]):
        there = [form(row) for rows_there in paper[:many + 2] for row in rows_there]
        for row in rows:
            for k in range(len(menu)):
                if form(row + (k,)) not in there:
                    return False
    return True


def made_menus(seed, many):
    maker = Maker(seed)
    for k in range(many):
        sides = ((1, 1), (2, 1), (2, 2), (3, 2))[k % 4]
        menu = maker.plain_row(*sides, maker.number(1, 4))
        yield maker, sides, menu


class LeastTests(unittest.TestCase):
    def test_plain_reading(self):
        found = 0
        for maker, sides, menu in made_menus(151, 60):
            for deeds in (
                tuple(maker.one_of(menu) for _ in range(maker.number(0, 4))), maker.plain_row(*sides, 1),
            ):
                most = maker.number(0, 3)
                wanted = plain_least(sides, menu, deeds, most)
                if wanted is None:
                    self.assertRaises(Missing, least_of_menu, sides, menu, deeds, most)
                else:
                    found += 1
                    self.assertEqual(least_of_menu(sides, menu, deeds, most), wanted)
        self.assertGreater(found, 40)

    def test_examples(self):
        turn = ("turn",)
        self.assertEqual(least_of_menu((2, 2), CARRIERS, (turn,) * 2, 3), (0, 1))
        self.assertEqual(least_of_menu((2, 2), CARRIERS, (turn,) * 3, 3), (0, 1, 2))
        self.assertEqual(least_of_menu((2, 2), CARRIERS, (turn,) * 4, 3), ())
        self.assertEqual(least_of_menu((2, 2), (turn, turn), (turn,) * 3, 3), (0, 0, 0))
        self.assertEqual(least_of_menu((2, 2), (("fall",), ("flip",)), (("flip",),), 1), (1,))

    def test_how_many_deeds_at_most(self):
        turn = ("turn",)
        self.assertEqual(least_of_menu((2, 2), (turn,), (), 0), ())
        self.assertRaises(Missing, least_of_menu, (2, 2), (turn,), (turn,), 0)
        self.assertRaises(Missing, least_of_menu, (2, 2), (turn,), (turn,) * 3, 2)
        self.assertEqual(least_of_menu((2, 2), (turn,), (turn,) * 3, 3), (0, 0, 0))
        self.assertEqual(least_of_menu((6, 1), (cycle(0, 9),), (cycle(0, 9),) * 5, 5), (0,) * 5)
        self.assertRaises(Missing, least_of_menu, (6, 1), (cycle(0, 9),), (cycle(0, 9),) * 6, 5)

    def test_rows_of_forty_deeds(self):
        self.assertEqual(least_of_menu((2, 2), CARRIERS, (("turn",),) * 39, 3), (0, 1, 2))

    def test_how_many_forms(self):
        none = (("move", 1, 0),)
        self.assertRaises(Missing, least_of_menu, WIDE, JUST, none, 4)
        self.assertRaises(TooLarge, least_of_menu, WIDE, MORE, none, 4)
        self.assertRaises(Missing, least_of_menu, WIDE, MORE, none, 3)
        self.assertRaises(TooLarge, least_of_menu, WIDE, JUST, none, 5)
        # Only rows that are shorter than the least one count.
        self.assertEqual(least_of_menu(WIDE, MORE, MORE[5:] * 4, 4), (5,) * 4)
        self.assertEqual(least_of_menu(WIDE, MORE, MORE[5:] * 4, 5), (5,) * 4)
        five = JUST[1:]
        self.assertEqual(least_of_menu(WIDE, JUST, five, 5), (1, 2, 3, 4, 5))
        self.assertRaises(TooLarge, least_of_menu, WIDE, MORE, MORE[1:], 5)
        self.assertRaises(TooLarge, least_of_menu, WIDE, MORE, MORE[1:], 4)
        self.assertRaises(Missing, least_of_menu, WIDE, JUST, five, 4)


class PaperTests(unittest.TestCase):
    def test_papers_are_right(self):
        for maker, sides, menu in made_menus(152, 40):
            most = maker.number(0, 3)
            paper = layers_paper(sides, menu, most)
            self.assertEqual(len(paper), most + 1)
            self.assertTrue(plain_right(sides, menu, paper))
            for deeds in (maker.plain_row(*sides, 1), (), (maker.one_of(menu),) * 2, (maker.one_of(menu),) * 3):
                wanted = plain_least(sides, menu, deeds, most) is None
                self.assertIs(judge_layers(sides, menu, deeds, paper), wanted)

    def test_examples(self):
        turn = ("turn",)
        paper = layers_paper((2, 2), CARRIERS, 1)
        self.assertIs(judge_layers((2, 2), CARRIERS, (turn, turn), paper), True)
        self.assertIs(judge_layers((2, 2), CARRIERS, (turn,), paper), False)
        self.assertEqual(layers_paper((2, 2), CARRIERS, 0), (((),),))
        self.assertIs(judge_layers((2, 2), CARRIERS, (turn,), (((),),)), True)
        self.assertIs(judge_layers((2, 2), CARRIERS, (turn,) * 4, (((),),)), False)

    def test_other_papers(self):
        menu, deeds = (("flip",), ("fall",)), (("turn",), ("flip",))
        right = [
            (((),),), (((),), ((0,), (1,))), (((),), ((1,), (0,), (1,))), (((),), ((0,), (1,)), ((0, 1),)),
            (((),), ((0,), (1,)), ((1, 0),)), (((),), ((0,), (1,)), ((1, 0), (0, 1), (0, 0))),
            (((),), ((0,), (1,)), ((1, 0),), ()), (((),), ((0,), (1,)), ((1, 0),), (), (), (), (), ()),
            (((),), ((0,), (1,)), ((1, 0),), ((0, 0, 0),)),
        ]
        wrong = [
            (), ((),), (((), ()),), (((0,),),), (((),), ()), (((),), ((0,),)), (((),), ((0,), (1,)), ()),
            (((),), ((0,), (1,)), ((0, 0),)), (((),), ((0,), (1,), ())), (((),), ((0,), (1,), (2,))), (((),), ((0,), (1,), (-1,))),
            (((),), ((0,), (1, 0))), (((0,),), ((0,), (1,))), (((),), ((0,), (1,)), ((0, 1, 0),)), (((),), ((0,), (1,)), ((0, 2),)),
            (((),), (), ((0, 1),)), (((),), ((0,), (1,)), ((1, 0),), ((0, 0, 2),)),
        ]
        for paper in right:
            self.assertTrue(plain_right((2, 2), menu, paper), paper)
            self.assertIs(judge_layers((2, 2), menu, deeds, paper), True, paper)
        for paper in wrong:
            self.assertFalse(plain_right((2, 2), menu, paper), paper)
            self.assertIs(judge_layers((2, 2), menu, deeds, paper), False, paper)

    def test_a_form_in_the_paper(self):
        menu = (("flip",), ("fall",))
        paper = (((),), ((0,), (1,)), ((0, 1),))
        for deeds in ((), (("flip",),), (("fall",),), (("turn",), ("turn",))):
            self.assertIs(judge_layers((2, 2), menu, deeds, paper), False)
        self.assertIs(judge_layers((2, 2), menu, (("flip",), ("fall",)), paper[:2]), True)

    def test_how_many_forms(self):
        paper = layers_paper(WIDE, JUST, 4)
        self.assertEqual(len(paper), 5)
        self.assertIs(judge_layers(WIDE, JUST, JUST[1:], paper), True)
        self.assertRaises(TooLarge, layers_paper, WIDE, MORE, 4)
        self.assertRaises(TooLarge, layers_paper, WIDE, JUST, 5)
        self.assertEqual(len(layers_paper(WIDE, MORE, 3)), 4)


class WrongValuesTests(unittest.TestCase):
    def refused(self, sides, menu, deeds, most):
        self.assertRaises(NotAllowed, least_of_menu, sides, menu, deeds, most)
        if deeds == ():
            self.assertRaises(NotAllowed, layers_paper, sides, menu, most)
        if most == 1:
            self.assertRaises(NotAllowed, judge_layers, sides, menu, deeds, (((),),))
            self.assertRaises(NotAllowed, judge_layers, sides, menu, deeds, ())

    def test_sides_and_rows(self):
        for sides in WRONG_SIDES:
            self.refused(sides, (("flip",),), (), 1)
        wrong = [(deed,) for deed in wrong_deeds()] + [
            (GOOD["mean"],), (GOOD["swell"],), (GOOD["flood"],), (("turn",),), (("flip",),) * 41,
        ]
        for deeds in wrong:
            self.refused((2, 1), (("flip",),), deeds, 1)

    def test_menus(self):
        six = (("flip",),) * 6
        self.assertEqual(least_of_menu((2, 1), six, (("flip",),), 1), (0,))
        self.assertEqual(least_of_menu((2, 1), six[:1], (("flip",),), 1), (0,))
        self.refused((2, 1), six + six[:1], (), 1)
        self.refused((2, 1), (), (), 1)
        for deed in list(wrong_deeds())[::5] + [("turn",), GOOD["mean"], GOOD["swell"], GOOD["flood"]]:
            self.refused((2, 1), (("flip",), deed), (), 1)

    def test_most(self):
        for most in (-1, 6, 100):
            self.refused((2, 1), (("flip",),), (), most)
        for most in range(6):
            self.assertEqual(least_of_menu((2, 1), (("flip",),), (), most), ())
            self.assertEqual(len(layers_paper((2, 1), (("flip",),), most)), most + 1)

    def test_not_allowed_ahead_of_too_large(self):
        self.assertRaises(TooLarge, least_of_menu, WIDE, JUST, (("move", 1, 0),), 5)
        self.refused(WIDE, JUST, (("move", 25, 0),), 5)
        self.refused(WIDE, JUST + JUST[:1], (("move", 1, 0),), 5)
        self.refused(WIDE, JUST, (("move", 1, 0),), 6)


if __name__ == "__main__":
    unittest.main()
