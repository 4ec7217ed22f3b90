"""[2.10] and [2.11]: rectangles, cuts, chords and crossing papers."""

import itertools
import unittest

from paintershouse.errors import BadPaper, NotAllowed
from paintershouse.rectangles import chords, crossing_paper, fewest_rectangles, judge_cut, least_by
from tests.making import Maker, all_point_sets, plain_region
from tests.test_parts import plain_holes, plain_parts
from tests.test_regions import WRONG_REGIONS

RING = ((0, 0, 2), (1, 0, 0), (1, 2, 2), (2, 0, 2))
PLUS = ((0, 1, 1), (1, 0, 2), (2, 1, 1))
ACROSS_TOP, ACROSS_BOTTOM = ((1, 1), (2, 1)), ((1, 2), (2, 2))
UPRIGHT_LEFT, UPRIGHT_RIGHT = ((1, 1), (1, 2)), ((2, 1), (2, 2))
FULL = tuple((y, 0, 23) for y in range(24))


def plain_hollow(points):
    """The words of [2.11], for all corners."""
    right = max((x for x, _ in points), default=0) + 2
    bottom = max((y for _, y in points), default=0) + 2
    return [
        (x, y) for x in range(right) for y in range(bottom)
        if sum(point in points for point in ((x - 1, y - 1), (x, y - 1), (x - 1, y), (x, y))) == 3
    ]


def plain_chords(points):
    """The words of [2.11], for all pairs of hollow corners on one line."""
    found = []
    for (x, y), (to_x, to_y) in itertools.combinations(sorted(plain_hollow(points)), 2):
        if y == to_y:
            beside = [(k, y + d) for k in range(x, to_x) for d in (-1, 0)]
        elif x == to_x:
            beside = [(x + d, k) for k in range(y, to_y) for d in (-1, 0)]
        else:
            continue
        if all(point in points for point in beside):
            found.append(((x, y), (to_x, to_y)))
    return sorted(found)


def corners_on(chord):
    (x, y), (to_x, to_y) = chord
    return {(k, j) for k in range(x, to_x + 1) for j in range(y, to_y + 1)}


def plain_pairs(points):
    """All pairs of a chord along x and one along y that cross."""
    found = plain_chords(points)
    return [
        (across, upright) for across in found for upright in found
        if across[0][1] == across[1][1] and upright[0][0] == upright[1][0]
        and corners_on(across) & corners_on(upright)
    ]


def all_papers(pairs):
    """Yields all crossing papers that can be made of pairs that ascend."""
    if not pairs:
        yield ()
        return
    yield from all_papers(pairs[1:])
    across, upright = pairs[0]
    for rest in all_papers([pair for pair in pairs[1:] if pair[0] != across and pair[1] != upright]):
        yield (pairs[0],) + rest


def plain_least(points, sides, paper):
    """The number of the theorem of [2.11]."""
    number = len(plain_hollow(points)) - len(plain_chords(points)) + len(paper)
    return number + len(plain_parts(points, 4)) - len(plain_holes(points, sides, 4))


def points_of_rectangle(rectangle):
    left, top, right, bottom = rectangle
    return {(x, y) for x in range(left, right) for y in range(top, bottom)}


def plain_judge(points, rectangles):
    """The words of [2.10]."""
    if list(rectangles) != sorted(set(rectangles)):
        return False
    if not all(left < right and top < bottom for left, top, right, bottom in rectangles):
        return False
    told = [point for rectangle in rectangles for point in points_of_rectangle(rectangle)]
    return len(told) == len(set(told)) and set(told) == points


def all_cuts(points):
    """Yields all cuts of points, each one as a list of rectangles."""
    if not points:
        yield []
        return
    x, y = min(points, key=lambda point: (point[1], point[0]))
    right = x
    while (right, y) in points:
        right += 1
        bottom = y
        while all((k, bottom) in points for k in range(x, right)):
            bottom += 1
            rectangle = (x, y, right, bottom)
            for rest in all_cuts(points - points_of_rectangle(rectangle)):
                yield [rectangle] + rest


def fewest_by_trying(points, known):
    """The least number of rectangles, by all first ones."""
    if not points:
        return 0
    key = frozenset(points)
    if key not in known:
        x, y = min(points, key=lambda point: (point[1], point[0]))
        least = len(points)
        right = x
        while (right, y) in points:
            right += 1
            bottom = y
            while all((k, bottom) in points for k in range(x, right)):
                bottom += 1
                rest = points - points_of_rectangle((x, y, right, bottom))
                least = min(least, 1 + fewest_by_trying(rest, known))
        known[key] = least
    return known[key]


def made_sets():
    """Sets of points with their sides."""
    maker = Maker(211)
    for percent in (40, 60, 70, 80, 85, 90, 95):
        for sides in ((5, 5), (6, 4), (9, 9), (12, 7), (1, 24), (24, 2)):
            yield maker.points(*sides, percent), sides
    for percent in (50, 70, 85, 95):
        yield maker.points(24, 24, percent), (24, 24)
    yield set(), (1, 1)
    yield {(x, y) for x in range(24) for y in range(24) if (x + y) % 2}, (24, 24)
    yield {(x, y) for x in range(24) for y in range(24) if x % 2 == 0 or y % 2 == 0}, (24, 24)
    yield {(x, y) for x in range(24) for y in range(24) if x % 3 or y % 3}, (24, 24)
    yield {(x, y) for x in range(24) for y in range(24) if min(x, y, 23 - x, 23 - y) % 2 == 0}, (24, 24)
    # Rows of bars that are put over rows of bars: chords that cross in many ways.
    for step in (2, 3, 4, 5):
        bars = {(x, y) for x in range(20) for y in range(20) if (x // step) % 2 or (y // step) % 2}
        yield bars | {(x, y) for x in range(3, 17) for y in range(5, 15)}, (24, 24)


class ChordsTests(unittest.TestCase):
    def test_answers(self):
        self.assertEqual(chords(()), [])
        self.assertEqual(chords(FULL), [])
        self.assertEqual(chords(RING), [])
        self.assertEqual(chords(PLUS), [UPRIGHT_LEFT, ACROSS_TOP, ACROSS_BOTTOM, UPRIGHT_RIGHT])

    def test_points_that_touch_at_a_corner_alone_make_no_hollow_corner(self):
        self.assertEqual(chords(((0, 0, 0), (1, 1, 1))), [])
        self.assertEqual(least_by(((0, 0, 0), (1, 1, 1)), ()), 2)

    def test_plain_reading(self):
        for points in all_point_sets(4, 4):
            if len(points) > 11:
                self.assertEqual(chords(plain_region(points)), plain_chords(points))
        for points, _ in made_sets():
            self.assertEqual(chords(plain_region(points)), plain_chords(points))


class LeastByTests(unittest.TestCase):
    def test_answers(self):
        self.assertEqual(least_by((), ()), 0)
        self.assertEqual(least_by(FULL, ()), 1)
        self.assertEqual(least_by(RING, ()), 4)
        self.assertEqual(least_by(PLUS, ()), 1)
        self.assertEqual(least_by(PLUS, ((ACROSS_TOP, UPRIGHT_LEFT),)), 2)
        self.assertEqual(least_by(PLUS, ((ACROSS_TOP, UPRIGHT_RIGHT), (ACROSS_BOTTOM, UPRIGHT_LEFT))), 3)

    def test_wrong_papers(self):
        for paper in (
            # In another order, twice, or with a chord twice.
            ((ACROSS_BOTTOM, UPRIGHT_LEFT), (ACROSS_TOP, UPRIGHT_RIGHT)),
            ((ACROSS_TOP, UPRIGHT_LEFT), (ACROSS_TOP, UPRIGHT_LEFT)),
            ((ACROSS_TOP, UPRIGHT_LEFT), (ACROSS_TOP, UPRIGHT_RIGHT)),
            ((ACROSS_TOP, UPRIGHT_LEFT), (ACROSS_BOTTOM, UPRIGHT_LEFT)),
            # The one along y first, two along the same line, a chord backwards.
            ((UPRIGHT_LEFT, ACROSS_TOP),), ((ACROSS_TOP, ACROSS_BOTTOM),), ((UPRIGHT_LEFT, UPRIGHT_RIGHT),),
            ((ACROSS_TOP, ACROSS_TOP),), ((ACROSS_TOP[::-1], UPRIGHT_LEFT),), ((ACROSS_TOP, UPRIGHT_LEFT[::-1]),),
            # What is no chord.
            ((((1, 1), (1, 1)), UPRIGHT_LEFT),), ((((0, 0), (3, 0)), UPRIGHT_LEFT),),
            ((ACROSS_TOP, ((0, 0), (0, 3))),), ((ACROSS_TOP, ((1, 1), (1, 10 ** 12))),),
        ):
            with self.subTest(paper=paper):
                self.assertRaises(BadPaper, least_by, PLUS, paper)
                self.assertRaises(BadPaper, least_by, RING, paper)

    def test_chords_that_cross_between_their_ends(self):
        points = {(x, y) for x in range(6) for y in range(6)} - {(0, 2), (5, 2), (2, 0), (2, 5)}
        region = plain_region(points)
        top, bottom, left, right = ((1, 2), (5, 2)), ((1, 3), (5, 3)), ((2, 1), (2, 5)), ((3, 1), (3, 5))
        self.assertEqual(chords(region), [top, bottom, left, right])
        self.assertEqual(least_by(region, ()), 5)
        self.assertEqual(least_by(region, ((top, left), (bottom, right))), 7)
        self.assertEqual(least_by(region, ((top, right), (bottom, left))), 7)
        self.assertEqual((len(crossing_paper(region)), len(fewest_rectangles(region))), (2, 7))

    def test_chords_that_do_not_cross(self):
        # Two plus signs side by side: chords of one do not cross those of the other one.
        two = ((0, 1, 1), (0, 5, 5), (1, 0, 2), (1, 4, 6), (2, 1, 1), (2, 5, 5))
        far = ((5, 1), (5, 2))
        self.assertIn(far, chords(two))
        self.assertEqual(least_by(two, ((ACROSS_TOP, UPRIGHT_LEFT),)), 3)
        self.assertRaises(BadPaper, least_by, two, ((ACROSS_TOP, far),))

    def test_wrong_regions_come_first(self):
        for region in WRONG_REGIONS:
            self.assertRaises(NotAllowed, least_by, region, ())
            self.assertRaises(NotAllowed, least_by, region, ((UPRIGHT_LEFT, ACROSS_TOP),))

    def test_plain_reading_of_papers(self):
        """All tuples of two pairs of chords, of some regions."""
        for points in ({(1, 0), (0, 1), (1, 1), (2, 1), (1, 2)}, {(1, 0), (0, 1), (1, 1), (2, 1), (1, 2), (0, 2)}):
            region, pairs = plain_region(points), plain_pairs(points)
            right = set(all_papers(pairs))
            every = list(itertools.product(chords(region), repeat=2))
            for many in (0, 1, 2):
                for paper in itertools.product(every, repeat=many):
                    if paper in right:
                        self.assertEqual(least_by(region, paper), plain_least(points, (3, 3), paper))
                    else:
                        self.assertRaises(BadPaper, least_by, region, paper)


class TheoremTests(unittest.TestCase):
    """The theorem of [2.11]."""

    def check_fewest(self, points, sides):
        """Returns the number that a cut and a paper have in common."""
        region = plain_region(points)
        cut, paper = fewest_rectangles(region), crossing_paper(region)
        self.assertTrue(plain_judge(points, cut))
        self.assertIs(judge_cut(region, cut), True)
        pairs = plain_pairs(points)
        self.assertEqual(list(paper), sorted(paper))
        self.assertLessEqual(set(paper), set(pairs))
        used = [chord for pair in paper for chord in pair]
        self.assertEqual(len(used), len(set(used)))
        self.assertEqual(least_by(region, paper), plain_least(points, sides, paper))
        self.assertEqual(least_by(region, paper), len(cut))
        return len(cut)

    def test_all_cuts_of_all_small_regions(self):
        for sides in ((4, 3), (3, 3), (2, 5)):
            for points in all_point_sets(*sides):
                least = min(len(cut) for cut in all_cuts(points))
                self.assertEqual(self.check_fewest(points, sides), least)

    def test_no_cut_has_fewer_than_any_paper_tells(self):
        """All papers and all cuts of regions with chords that cross."""
        seen = 0
        for points in all_point_sets(4, 3):
            pairs = plain_pairs(points)
            if pairs:
                seen += 1
                region = plain_region(points)
                told = [least_by(region, paper) for paper in all_papers(sorted(pairs))]
                self.assertEqual(max(told), min(len(cut) for cut in all_cuts(points)))
        self.assertGreater(seen, 3)

    def test_made_regions_by_trying(self):
        maker = Maker(112)
        known = {}
        for k in range(150):
            points = maker.points(5, 5, 60 + k % 4 * 10)
            self.assertEqual(self.check_fewest(points, (5, 5)), fewest_by_trying(points, known))

    def test_made_regions(self):
        for points, sides in made_sets():
            self.check_fewest(points, sides)

    def test_many_chords(self):
        """Regions in which a first choice of pairs is not always good enough."""
        maker = Maker(113)
        for _ in range(40):
            points = {(x, y) for x in range(12) for y in range(12)}
            for _ in range(maker.number(3, 14)):
                points.discard((maker.number(0, 11), maker.number(0, 11)))
            self.check_fewest(points, (12, 12))

    def test_errors(self):
        for region in WRONG_REGIONS:
            for call in (fewest_rectangles, crossing_paper, chords):
                self.assertRaises(NotAllowed, call, region)
            self.assertRaises(NotAllowed, judge_cut, region, ())


class JudgeCutTests(unittest.TestCase):
    def test_right_and_wrong_cuts(self):
        good = ((0, 0, 3, 1), (0, 1, 1, 3), (1, 2, 3, 3), (2, 1, 3, 2))
        points = tuple((x, y, x + 1, y + 1) for x in range(3) for y in range(3) if (x, y) != (1, 1))
        for rectangles, right in (
            (good, True), (points, True), (good[::-1], False), (good[1:], False), (good + good, False), ((), False),
            (good[:1] + good, False), (((0, 0, 3, 3),), False), (((0, 0, 3, 1), (0, 0, 1, 3)) + good[2:], False),
            (good[:3] + ((2, 1, 3, 3),), False), (good + ((3, 0, 4, 1),), False), (good + ((2, 2, 2, 2),), False),
            (((0, 0, 0, 0),) + good, False), (((-1, 0, 0, 1),) + good, False), (good + ((5, 5, 3, 3),), False),
            (((-10 ** 12, -10 ** 12, 10 ** 12, 10 ** 12),), False), (((0, 0, 3, 10 ** 12),), False),
        ):
            with self.subTest(rectangles=rectangles):
                self.assertIs(judge_cut(RING, rectangles), right)

    def test_edges(self):
        self.assertIs(judge_cut((), ()), True)
        self.assertIs(judge_cut((), ((0, 0, 1, 1),)), False)
        self.assertIs(judge_cut((), ((0, 0, 0, 0),)), False)
        self.assertIs(judge_cut(FULL, ((0, 0, 24, 24),)), True)
        self.assertIs(judge_cut(FULL, ((0, 0, 25, 24),)), False)
        self.assertIs(judge_cut(FULL, ((0, 0, 12, 24), (12, 0, 24, 24))), True)

    def test_plain_reading(self):
        every = list(itertools.product(range(3), repeat=4))
        for points in all_point_sets(2, 2):
            region = plain_region(points)
            for many in (0, 1, 2):
                for rectangles in itertools.product(every, repeat=many):
                    if judge_cut(region, rectangles) != plain_judge(points, rectangles):
                        self.fail((region, rectangles))


if __name__ == "__main__":
    unittest.main()
