"""[8.3] to [8.5]: ways together, settled rows, merges, parting papers, rows behind a base, and the clash."""

import itertools
import unittest

from paintershouse.deeds import done, done_all
from paintershouse.errors import Missing, NotAllowed, TooLarge
from paintershouse.forms import form_of, told_entries
from paintershouse.merging import MAX_MERGES, are_settled, clash, judge_parting, merged, merges, parting_paper
from paintershouse.pictures import points_of
from paintershouse.regions import region_of
from tests.making import Maker
from tests.test_deeds_errors import GOOD, wrong_deeds
from tests.test_regions import WRONG_SIDES

CLEAR, RED, BLUE = (0, 0, 0, 0), (15, 0, 0, 15), (0, 0, 15, 15)
SIDES = [(1, 1), (2, 1), (1, 3), (2, 2), (3, 2), (3, 3)]


def all_ways(first, second):
    many = len(first) + len(second)
    for places in itertools.combinations(range(many), len(second)):
        yield tuple(1 if k in places else 0 for k in range(many))


def together(first, second, way):
    rows = [list(first), list(second)]
    return tuple(rows[k].pop(0) for k in way)


def plain_merges(sides, first, second):
    """The merges, or None where it is too large, by all ways of all beginnings."""
    found = {}
    for i in range(len(first) + 1):
        for j in range(len(second) + 1):
            found = {}
            for way in sorted(all_ways(first[:i], second[:j])):
                found.setdefault(form_of(sides, together(first[:i], second[:j], way)), way)
            if len(found) > MAX_MERGES:
                return None
    return sorted(found.values())


def made_pairs(seed, many, most):
    maker = Maker(seed)
    for k in range(many):
        sides = SIDES[k % len(SIDES)]
        row = maker.plain_row if k % 4 == 0 else maker.busy_row
        yield maker, sides, row(*sides, maker.number(0, most)), row(*sides, maker.number(0, most))


def erased(k):
    """The deed that makes the point k of sides (24, 2) clear."""
    return ("erase", ((k // 24, k % 24, k % 24),), 15)


ALL_RED = ("fill", ((0, 0, 23), (1, 0, 23)), RED, "plain", 15)


class MergesTests(unittest.TestCase):
    def test_all_ways_together(self):
        settled = 0
        for _, sides, first, second in made_pairs(231, 240, 3):
            wanted = plain_merges(sides, first, second)
            self.assertEqual(merges(sides, first, second), wanted)
            self.assertIs(are_settled(sides, first, second), len(wanted) == 1)
            settled += len(wanted) == 1 and bool(first) and bool(second)
        self.assertGreater(settled, 30)

    def test_longer_rows(self):
        for _, sides, first, second in made_pairs(232, 20, 5):
            wanted = plain_merges(sides, first, second)
            if wanted is None:
                self.assertRaises(TooLarge, merges, sides, first, second)
                self.assertRaises(TooLarge, are_settled, sides, first, second)
                self.assertRaises(TooLarge, parting_paper, sides, first, second)
            else:
                self.assertEqual(merges(sides, first, second), wanted)

    def test_examples(self):
        red, blue = ("fill", ((0, 0, 0),), RED, "plain", 15), ("fill", ((0, 0, 0),), BLUE, "plain", 15)
        self.assertEqual(merges((1, 1), (red,), (blue,)), [(0, 1), (1, 0)])
        self.assertEqual(merges((1, 1), (red, red), (blue,)), [(0, 0, 1), (0, 1, 0)])
        self.assertEqual(merges((1, 1), (red,), (blue, red)), [(0, 1, 1)])
        self.assertEqual(merges((1, 1), (red,), (red,)), [(0, 1)])

    def test_rows_without_deeds(self):
        self.assertEqual(merges((2, 1), (), ()), [()])
        self.assertIs(are_settled((2, 1), (), ()), True)
        self.assertEqual(merges((2, 1), (("flip",),) * 3, ()), [(0, 0, 0)])
        self.assertEqual(merges((2, 1), (), (ALL_RED, ("flip",))), [(1, 1)])
        for first, second in (((), ()), ((ALL_RED,), ()), ((), (ALL_RED,))):
            self.assertRaises(Missing, parting_paper, (2, 1), first, second)

    def test_forty_merges_and_more(self):
        some = tuple(erased(k) for k in range(40))
        found = merges((24, 2), (ALL_RED,), some[:39])
        self.assertEqual(found, [(1,) * k + (0,) + (1,) * (39 - k) for k in range(40)])
        self.assertEqual(merges((24, 2), some[:39], (ALL_RED,)), [(0,) * k + (1,) + (0,) * (39 - k) for k in range(39, -1, -1)])
        for first, second in (((ALL_RED,), some), (some, (ALL_RED,))):
            for call in (merges, are_settled, parting_paper):
                self.assertRaises(TooLarge, call, (24, 2), first, second)

    def test_beginnings_count(self):
        # The whole rows have one form, as all is cleared at last, but their beginnings have forty, or one more.
        last = ("erase", ((0, 0, 23), (1, 0, 23)), 15)
        some = tuple(erased(k) for k in range(40))
        for rows in (((ALL_RED, last), some[:39]), (some[:39], (ALL_RED, last))):
            self.assertEqual(len(merges((24, 2), *rows)), 1)
            self.assertIs(are_settled((24, 2), *rows), True)
            self.assertRaises(Missing, parting_paper, (24, 2), *rows)
        for rows in (((ALL_RED, last), some), (some, (ALL_RED, last))):
            for call in (merges, are_settled, parting_paper):
                self.assertRaises(TooLarge, call, (24, 2), *rows)

    def test_more_than_forty_deeds_together(self):
        flips, falls = (("flip",),) * 30, (("fall",),) * 31
        self.assertEqual(merges((3, 2), flips, falls), [(0,) * 30 + (1,) * 31])
        self.assertIs(are_settled((3, 2), (("flip",),) * 40, (("fall",),) * 40), True)
        red = ("fill", ((0, 0, 0),), RED, "plain", 15)
        found = merges((3, 1), flips, (red,) * 39)
        self.assertEqual(found[0], (0,) * 30 + (1,) * 39)
        paper = parting_paper((3, 1), flips, (red,) * 39)
        self.assertIs(judge_parting((3, 1), flips, (red,) * 39, paper), True)


class PartingTests(unittest.TestCase):
    def test_there_is_one_just_if_they_are_not_settled(self):
        papers = 0
        for maker, sides, first, second in made_pairs(233, 200, 3):
            if are_settled(sides, first, second):
                self.assertRaises(Missing, parting_paper, sides, first, second)
                ways = list(all_ways(first, second))
                for _ in range(5):
                    paper = (maker.one_of(ways), maker.one_of(ways), maker.picture(*sides))
                    self.assertIs(judge_parting(sides, first, second, paper), False)
                continue
            papers += 1
            paper = parting_paper(sides, first, second)
            self.assertTrue(self.is_right(sides, first, second, paper))
            self.assertIs(judge_parting(sides, first, second, paper), True)
        self.assertGreater(papers, 40)

    def is_right(self, sides, first, second, paper):
        """The words of [8.4]."""
        one, other, picture = paper
        ways = list(all_ways(first, second))
        if one not in ways or other not in ways or (len(picture[0]), len(picture)) != sides:
            return False
        return done_all(picture, together(first, second, one)) != done_all(picture, together(first, second, other))

    def test_other_papers(self):
        judged = []
        for maker, sides, first, second in made_pairs(234, 150, 3):
            ways = list(all_ways(first, second))
            ways += [(), (0,), (0, 1), (1, 0), (0, 0, 1), (2,), (0, 1, 2), (-1, 0), (0, 1, 0, 1, 0)]
            for _ in range(10):
                wide, high = sides if maker.number(0, 5) else (sides[1], sides[0])
                paper = (maker.one_of(ways), maker.one_of(ways), maker.picture(wide, high))
                judged.append(judge_parting(sides, first, second, paper))
                self.assertIs(judged[-1], self.is_right(sides, first, second, paper))
        self.assertGreater(judged.count(True), 25)

    def test_examples(self):
        red, blue = ("fill", ((0, 0, 0),), RED, "plain", 15), ("fill", ((0, 0, 0),), BLUE, "plain", 15)
        picture = ((CLEAR,),)
        self.assertIs(judge_parting((1, 1), (red,), (blue,), ((0, 1), (1, 0), picture)), True)
        for paper in (
            ((0, 1), (0, 1), picture), ((0, 1), (1, 1), picture), ((0, 0), (1, 0), picture), ((0, 1, 1), (1, 0), picture),
            ((0, 1), (1, 0), picture * 2), ((0, 1), (2, 0), picture), ((), (), picture), ((0, 1), (-1, 0), picture),
        ):
            self.assertIs(judge_parting((1, 1), (red,), (blue,), paper), False, paper)


class ClashTests(unittest.TestCase):
    def test_the_plain_reading(self):
        fitting = 0
        for maker, sides, first, second in made_pairs(235, 250, 2):
            base = maker.plain_row(*sides, maker.number(0, 2))
            there = told_entries(form_of(sides, base + first + second))
            back = told_entries(form_of(sides, base + second + first))
            wanted = region_of([point for point in points_of(*sides) if there[point] != back[point]])
            self.assertEqual(clash(sides, base, first, second), wanted)
            if wanted:
                self.assertRaises(Missing, merged, sides, base, first, second)
            else:
                fitting += bool(first) and bool(second)
                self.assertEqual(merged(sides, base, first, second), base + first + second)
        self.assertGreater(fitting, 50)

    def test_behind_a_base_they_may_fit(self):
        clear = ("erase", ((0, 0, 2),), 15)
        half = ("erase", ((0, 0, 0),), 8)
        self.assertEqual(clash((3, 1), (), (("flip",),), (half,)), ((0, 0, 0), (0, 2, 2)))
        self.assertEqual(clash((3, 1), (clear,), (("flip",),), (half,)), ())
        self.assertEqual(merged((3, 1), (clear,), (("flip",),), (half,)), (clear, ("flip",), half))
        self.assertEqual(merged((3, 1), (), (), ()), ())

    def test_too_many_deeds(self):
        flips, red = (("flip",),) * 20, ("fill", ((0, 0, 0),), RED, "plain", 15)
        self.assertEqual(len(merged((3, 1), flips, flips, ())), 40)
        self.assertRaises(TooLarge, merged, (3, 1), flips, flips, (("flip",),))
        # Rows that do not fit, with forty deeds and with one more.
        self.assertRaises(Missing, merged, (3, 1), flips + flips[:18], (("flip",),), (red,))
        self.assertRaises(TooLarge, merged, (3, 1), flips + flips[:19], (("flip",),), (red,))
        self.assertEqual(clash((3, 1), flips * 2, flips * 2, flips * 2), ())
        self.assertEqual(clash((3, 1), flips * 2, flips + flips[1:], (red,)), ((0, 0, 0), (0, 2, 2)))


class WrongValuesTests(unittest.TestCase):
    def refused(self, sides, deeds):
        paper = ((), (), ((CLEAR,),))
        for first, second in ((deeds, ()), ((), deeds), (deeds, deeds)):
            self.assertRaises(NotAllowed, merges, sides, first, second)
            self.assertRaises(NotAllowed, are_settled, sides, first, second)
            self.assertRaises(NotAllowed, parting_paper, sides, first, second)
            self.assertRaises(NotAllowed, judge_parting, sides, first, second, paper)
            self.assertRaises(NotAllowed, clash, sides, (), first, second)
            self.assertRaises(NotAllowed, merged, sides, (), first, second)
        self.assertRaises(NotAllowed, clash, sides, deeds, (), ())
        self.assertRaises(NotAllowed, merged, sides, deeds, (), ())

    def test_sides_and_rows(self):
        for sides in WRONG_SIDES:
            self.refused(sides, ())
        for deed in wrong_deeds():
            self.refused((2, 1), (deed,))
        for deeds in ((GOOD["mean"],), (GOOD["swell"],), (GOOD["flood"],), (("turn",),), (("flip",),) * 41):
            self.refused((2, 1), deeds)

    def test_not_allowed_ahead_of_the_others(self):
        some = tuple(erased(k) for k in range(40))
        self.assertRaises(NotAllowed, merges, (24, 2), (ALL_RED,), some[:39] + (("turn",),))
        self.assertRaises(NotAllowed, merged, (3, 1), (("flip",),) * 40, (("flip",),), (("turn",),))
        self.assertRaises(NotAllowed, merged, (3, 1), (("flip",),) * 40, (GOOD["mean"],), ())

    def test_done_one_by_one(self):
        # The papers' words do not go beyond what done tells of each deed.
        picture = Maker(236).picture(3, 3)
        deeds = Maker(237).plain_row(3, 3, 5)
        for deed in deeds:
            picture = done(picture, deed)
        self.assertEqual(picture, done_all(Maker(236).picture(3, 3), deeds))


if __name__ == "__main__":
    unittest.main()
