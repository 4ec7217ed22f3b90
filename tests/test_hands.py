"""[8.1] and [8.2]: hands that go on from one picture, the dispute with its theorem, and dispute papers."""

import itertools
import unittest

from paintershouse.deeds import done_all
from paintershouse.errors import Missing, NotAllowed
from paintershouse.exchange import may_exchange
from paintershouse.forms import form_of, told_entries
from paintershouse.hands import MAX_HANDS, dispute, dispute_paper, do_agree, judge_dispute
from paintershouse.pictures import points_of
from paintershouse.regions import points_in, region_of
from tests.making import GREYS, Maker, dot
from tests.test_deeds_errors import GOOD, wrong_deeds
from tests.test_regions import WRONG_SIDES

CLEAR, RED, BLUE = (0, 0, 0, 0), (15, 0, 0, 15), (0, 0, 15, 15)
SIDES = [(1, 1), (2, 1), (1, 3), (2, 2), (3, 2)]


def fill(x, pixel=RED, level=15):
    return ("fill", ((0, x, x),), pixel, "plain", level)


def made_hands(seed, many):
    """Sides and hands for them, of which many agree somewhere."""
    maker = Maker(seed)
    for k in range(many):
        sides = SIDES[k % len(SIDES)]
        row = maker.plain_row if k % 3 == 0 else maker.busy_row
        hands = [row(*sides, maker.one_of((0, 1, 1, 2, 3))) for _ in range(maker.number(1, 4))]
        if maker.number(0, 2) == 0:
            hands[0] = hands[-1]
        yield maker, sides, tuple(hands)


def orders_of(hands):
    return list(itertools.permutations(range(len(hands))))


def together(hands, order):
    return tuple(deed for k in order for deed in hands[k])


def plain_dispute(sides, hands):
    """The points at which the entries of some order are others."""
    told = [told_entries(form_of(sides, together(hands, order))) for order in orders_of(hands)]
    return region_of([point for point in points_of(*sides) if any(one[point] != told[0][point] for one in told)])


class DisputeTests(unittest.TestCase):
    def test_the_plain_reading(self):
        agreed = 0
        for _, sides, hands in made_hands(221, 250):
            found = dispute(sides, hands)
            self.assertEqual(found, plain_dispute(sides, hands))
            self.assertIs(do_agree(sides, hands), found == ())
            agreed += len(hands) > 1 and found == ()
        self.assertGreater(agreed, 30)

    def test_pictures_of_one_grey_pixel(self):
        for maker, sides, hands in made_hands(222, 40):
            apart = set()
            pictures = [dot(*sides, point, pixel) for point in points_of(*sides) for pixel in GREYS[::7]]
            for picture in pictures + [maker.picture(*sides)]:
                made = [done_all(picture, together(hands, order)) for order in orders_of(hands)]
                apart |= {(x, y) for x, y in points_of(*sides) if any(one[y][x] != made[0][y][x] for one in made)}
            self.assertLessEqual(apart, set(points_in(dispute(sides, hands))))

    def test_hands_that_may_be_exchanged(self):
        """The theorem of [8.1]."""
        agreed = 0
        for maker, sides, hands in made_hands(223, 300):
            hands = tuple(self.softer(maker, deeds) for deeds in hands)
            if all(may_exchange(sides, one, other) for one, other in itertools.combinations(hands, 2)):
                agreed += len(hands) > 1
                self.assertEqual(dispute(sides, hands), ())
        self.assertGreater(agreed, 40)

    def softer(self, maker, deeds):
        return tuple(deed for deed in deeds if deed[0] in ("flip", "fall", "tone")) if maker.number(0, 1) else deeds

    def test_examples(self):
        black, white = (fill(0, (0, 0, 0, 15)), fill(1, (0, 0, 0, 15))), (fill(1, (15, 15, 15, 15)), fill(2))
        self.assertEqual(dispute((3, 1), (black, white)), ((0, 1, 1),))
        self.assertEqual(dispute((3, 1), (black, (("flip",),))), ((0, 0, 0), (0, 2, 2)))
        self.assertIs(do_agree((3, 1), (black, (), black)), True)
        self.assertIs(do_agree((3, 1), (black, white)), False)
        # Three hands, of which only the second and the third one do not go together.
        self.assertEqual(dispute((3, 1), ((fill(0),), (fill(1, RED),), (fill(1, BLUE),))), ((0, 1, 1),))
        # Each two of these go together at each other point.
        hands = ((fill(0, RED), fill(1, RED)), (fill(1, BLUE), fill(2, BLUE)), (fill(2, RED), fill(0, BLUE)))
        self.assertEqual(dispute((4, 1), hands), ((0, 0, 2),))

    def test_one_hand_and_rows_without_deeds(self):
        for _, sides, hands in made_hands(224, 30):
            self.assertIs(do_agree(sides, hands[:1]), True)
            self.assertEqual(dispute(sides, (hands[0], (), (), ())), ())
        self.assertEqual(dispute((1, 1), ((),)), ())
        self.assertEqual(dispute((24, 24), ((),) * 4), ())

    def test_great_rows(self):
        forty = (("flip",),) * 39 + (fill(0, RED, 3),)
        self.assertEqual(dispute((3, 1), (forty,) * 4), ())
        self.assertEqual(dispute((3, 1), (forty, (("flip",),) * 39, forty, ())), ((0, 0, 0), (0, 2, 2)))
        self.assertIs(do_agree((3, 1), ((("flip",),) * 40,) * 4), True)


class PaperTests(unittest.TestCase):
    def test_there_is_one_for_each_point_of_the_dispute_and_no_other(self):
        papers = 0
        for _, sides, hands in made_hands(225, 200):
            apart = points_in(dispute(sides, hands))
            for point in points_of(*sides):
                if point in apart:
                    papers += 1
                    paper = dispute_paper(sides, hands, point)
                    self.assertEqual(paper[3], point)
                    self.assertTrue(self.is_right(sides, hands, paper))
                    self.assertIs(judge_dispute(sides, hands, paper), True)
                else:
                    self.assertRaises(Missing, dispute_paper, sides, hands, point)
        self.assertGreater(papers, 80)

    def is_right(self, sides, hands, paper):
        """The words of [8.2]."""
        first, second, picture, point = paper
        orders = orders_of(hands)
        if first not in orders or second not in orders or (len(picture[0]), len(picture)) != sides:
            return False
        if point not in points_of(*sides):
            return False
        one, other = (done_all(picture, together(hands, order)) for order in (first, second))
        return one[point[1]][point[0]] != other[point[1]][point[0]]

    def test_other_papers(self):
        judged = []
        for maker, sides, hands in made_hands(226, 250):
            orders = orders_of(hands)
            if maker.number(0, 2) == 0:
                orders += [(0,), (), (0, 0), (1, 1), (0, 1, 2, 3), (0, 1, -1), (0, 2), (1, 0)]
            for _ in range(16):
                wide, high = sides if maker.number(0, 5) else (sides[1], sides[0])
                point = (maker.number(-1, sides[0]), maker.number(-1, sides[1]))
                paper = (maker.one_of(orders), maker.one_of(orders), maker.picture(wide, high), point)
                judged.append(judge_dispute(sides, hands, paper))
                self.assertIs(judged[-1], self.is_right(sides, hands, paper))
        self.assertGreater(judged.count(True), 30)

    def test_examples(self):
        hands, picture = ((fill(0, RED),), (fill(0, BLUE),)), ((CLEAR, CLEAR),)
        self.assertIs(judge_dispute((2, 1), hands, ((0, 1), (1, 0), picture, (0, 0))), True)
        self.assertIs(judge_dispute((2, 1), hands, ((1, 0), (0, 1), picture, (0, 0))), True)
        for paper in (
            ((0, 1), (0, 1), picture, (0, 0)), ((0, 1), (1, 0), picture, (1, 0)), ((0, 1), (1, 0), picture, (2, 0)),
            ((0, 1), (1, 0), picture, (0, -1)), ((0, 1), (1, 0), picture, (-2, 0)), ((0, 1), (1, 0), picture * 2, (0, 0)),
            ((0, 1), (1, 0), ((CLEAR,),), (0, 0)), ((0,), (1, 0), picture, (0, 0)), ((0, 1), (1,), picture, (0, 0)),
            ((0, 1), (1, 1), picture, (0, 0)), ((0, 1), (1, 0, 0), picture, (0, 0)), ((0, 1), (1, 2), picture, (0, 0)),
            ((0, 1), (-1, 0), picture, (0, 0)), ((), (), picture, (0, 0)),
        ):
            self.assertIs(judge_dispute((2, 1), hands, paper), False, paper)
        self.assertIs(judge_dispute((2, 1), hands[:1], ((0,), (0,), picture, (0, 0))), False)

    def test_the_picture_has_to_tell(self):
        hands = ((("erase", ((0, 0, 0),), 8),), (("erase", ((0, 0, 0),), 3),))
        found = set(points_in(dispute((1, 1), hands)))
        for cover in range(16):
            pixel = (0, 0, 0, cover)
            paper = ((0, 1), (1, 0), ((pixel,),), (0, 0))
            one, other = done_all(((pixel,),), hands[0] + hands[1]), done_all(((pixel,),), hands[1] + hands[0])
            self.assertIs(judge_dispute((1, 1), hands, paper), one != other)
            self.assertTrue(one == other or found == {(0, 0)})


class WrongValuesTests(unittest.TestCase):
    def refused(self, sides, hands, point=(0, 0)):
        if point == (0, 0):
            self.assertRaises(NotAllowed, dispute, sides, hands)
            self.assertRaises(NotAllowed, do_agree, sides, hands)
            self.assertRaises(NotAllowed, judge_dispute, sides, hands, ((0,), (0,), ((CLEAR,),), (0, 0)))
        self.assertRaises(NotAllowed, dispute_paper, sides, hands, point)

    def test_how_many_hands(self):
        self.assertEqual(MAX_HANDS, 4)
        self.refused((2, 1), ())
        self.refused((2, 1), ((),) * 5)
        self.refused((2, 1), ((("flip",),),) * 5)
        self.assertEqual(dispute((2, 1), ((),) * 4), ())

    def test_sides_and_rows(self):
        for sides in WRONG_SIDES:
            self.refused(sides, ((),))
        wrong = [(deed,) for deed in wrong_deeds()] + [
            (GOOD["mean"],), (GOOD["swell"],), (GOOD["flood"],), (("turn",),), (("flip",),) * 41,
        ]
        for deeds in wrong:
            self.refused((2, 1), (deeds,))
            self.refused((2, 1), ((), (("flip",),), deeds))
        self.assertEqual(dispute((2, 2), ((("turn",),), (("turn",),))), ())

    def test_points(self):
        for point in ((-1, 0), (2, 0), (0, 1), (0, -1), (24, 24)):
            self.refused((2, 1), ((),), point)
            self.refused((2, 1), ((fill(0, RED),), (fill(0, BLUE),)), point)
        self.assertRaises(Missing, dispute_paper, (2, 1), ((fill(0, RED),), (fill(0, BLUE),)), (1, 0))
        self.assertRaises(Missing, dispute_paper, (2, 1), ((fill(0, RED),),), (0, 0))


if __name__ == "__main__":
    unittest.main()
