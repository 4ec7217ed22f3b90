"""[10.3] and [10.4]: grey pictures, counts, scales, the best one, and numbers that show it."""

import itertools
import unittest

from paintershouse.errors import NotAllowed
from paintershouse.scales import (
    best_scale, check_counts, check_grey, check_scale, counts_of_levels, judge_greys, loss_by, true_greys,
)
from tests.making import Maker

ALL = tuple(range(16))
WRONG_GREYS = ((), ((),), ((0,), ()), ((0, 1), (2,)), ((16,),), ((-1,),), ((0,) * 25,), ((0,),) * 25, ((0, 15, 16),), ((), (0,)))
WRONG_SCALES = ((), (-1,), (16,), (0, 0), (1, 0), (0, 5, 5), (0, 16), (-1, 3), (0, 7, 3))
WRONG_COUNTS = ((), (0,) * 15, (0,) * 17, (-1,) + (0,) * 15, (0,) * 15 + (601,), (601,) * 16, (0,) * 7 + (-5,) + (0,) * 8)


def made_counts(seed, many):
    maker = Maker(seed)
    yield (0,) * 16
    yield (600,) * 16
    yield (1,) * 16
    for k in range(many):
        yield tuple(maker.one_of((0, 0, 1, 2, maker.number(0, 30), maker.number(0, 600))) if k % 3 else maker.number(0, 2) for _ in range(16))


def plain_loss(counts, scale):
    return sum(counts[level] * min((level - near) ** 2 for near in scale) for level in range(16))


def plain_best(counts, k):
    """The best scale among all choices, with its loss."""
    choices = []
    for size in range(1, k + 1):
        for scale in itertools.combinations(range(16), size):
            choices.append((plain_loss(counts, scale), size, scale))
    loss, _, scale = min(choices)
    return loss, scale


def plain_most(counts, numbers, j, c):
    """The greatest integer that the first two conditions of [10.4] allow at a place."""
    if j == 0:
        return sum(counts[level] * (c - level) ** 2 for level in range(c + 1))
    return min(
        numbers[j - 1][b] + sum(counts[level] * min((level - b) ** 2, (c - level) ** 2) for level in range(b + 1, c)) for b in range(j - 1, c)
    )


def plain_true(counts, k):
    rows = []
    for j in range(k):
        rows.append(tuple(-1 if j > c else plain_most(counts, rows, j, c) for c in range(16)))
    return tuple(rows)


def plain_right(counts, k, bound, numbers):
    if len(numbers) != k or any(len(row) != 16 for row in numbers):
        return False
    for j, c in itertools.product(range(k), range(16)):
        number = numbers[j][c]
        if j > c:
            if number != -1:
                return False
            continue
        if number > plain_most(counts, numbers, j, c):
            return False
        if number + sum(counts[level] * (level - c) ** 2 for level in range(c, 16)) < bound:
            return False
    return True


class GreyTests(unittest.TestCase):
    def test_grey_pictures_and_their_counts(self):
        maker = Maker(411)
        self.assertEqual(counts_of_levels(((0, 0, 1, 9, 15),)), (2, 1, 0, 0, 0, 0, 0, 0, 0, 1, 0, 0, 0, 0, 0, 1))
        self.assertEqual(counts_of_levels(((7,) * 24,) * 24), (0,) * 7 + (576,) + (0,) * 8)
        for _ in range(40):
            picture = tuple(tuple(maker.number(0, 15) for _ in range(5)) for _ in range(maker.number(1, 24)))
            self.assertIsNone(check_grey(picture))
            counts = counts_of_levels(picture)
            self.assertEqual(counts, tuple(sum(row.count(level) for row in picture) for level in range(16)))
            self.assertIsNone(check_counts(counts))

    def test_losses(self):
        maker = Maker(412)
        for counts in made_counts(412, 60):
            scale = tuple(level for level in range(16) if maker.number(0, 3) == 0) or (maker.number(0, 15),)
            self.assertEqual(loss_by(counts, scale), plain_loss(counts, scale))
            self.assertEqual(loss_by(counts, ALL), 0)
            self.assertEqual(loss_by((0,) * 16, scale), 0)
            for level in range(16):
                self.assertEqual(loss_by(counts, (level,)), sum(count * (k - level) ** 2 for k, count in enumerate(counts)))

    def test_wrong_values(self):
        counts = (1,) * 16
        for picture in WRONG_GREYS:
            self.assertRaises(NotAllowed, check_grey, picture)
            self.assertRaises(NotAllowed, counts_of_levels, picture)
        for scale in WRONG_SCALES:
            self.assertRaises(NotAllowed, check_scale, scale)
            self.assertRaises(NotAllowed, loss_by, counts, scale)
        for wrong in WRONG_COUNTS:
            self.assertRaises(NotAllowed, check_counts, wrong)
            self.assertRaises(NotAllowed, loss_by, wrong, (0,))
            for call in (best_scale, true_greys):
                self.assertRaises(NotAllowed, call, wrong, 1)
            self.assertRaises(NotAllowed, judge_greys, wrong, 1, 0, ((0,) * 16,))
        for k in (0, -1, 9, 16):
            for call in (best_scale, true_greys):
                self.assertRaises(NotAllowed, call, counts, k)
            self.assertRaises(NotAllowed, judge_greys, counts, k, 0, ())
        for scale in ((0,), (15,), ALL, (0, 15)):
            self.assertIsNone(check_scale(scale))
        self.assertIsNone(check_counts((600,) * 16))
        self.assertIsNone(check_counts((0,) * 16))


class BestTests(unittest.TestCase):
    def test_all_choices_of_few_levels(self):
        for counts in made_counts(413, 60):
            for k in (1, 2, 3):
                self.assertEqual(best_scale(counts, k), plain_best(counts, k)[1], (counts, k))

    def test_all_choices(self):
        for counts in list(made_counts(414, 3))[1:5]:
            for k in (4, 8):
                self.assertEqual(best_scale(counts, k), plain_best(counts, k)[1], (counts, k))

    def test_several_best_ones(self):
        # Without counts nothing is lost: one level is enough, and 0 is the first one.
        for k in range(1, 9):
            self.assertEqual(best_scale((0,) * 16, k), (0,))
        only = (0,) * 5 + (3,) + (0,) * 10
        self.assertEqual(best_scale(only, 8), (5,))
        two = (0,) * 4 + (1, 0, 0, 1) + (0,) * 8
        self.assertEqual(best_scale(two, 1), (5,))
        self.assertEqual(best_scale(two, 2), (4, 7))
        self.assertEqual(best_scale(two, 8), (4, 7))

    def test_examples(self):
        counts = counts_of_levels(((0, 0, 1, 9, 15),))
        self.assertEqual([best_scale(counts, k) for k in (2, 3, 4, 5, 8)], [(0, 12), (0, 9, 15), (0, 1, 9, 15), (0, 1, 9, 15), (0, 1, 9, 15)])
        self.assertEqual(loss_by(counts, (0, 12)), 19)


class NumbersTests(unittest.TestCase):
    def test_the_true_numbers(self):
        for counts in made_counts(415, 60):
            for k in range(1, 9):
                self.assertEqual(true_greys(counts, k), plain_true(counts, k))

    def test_they_are_right_for_the_least_loss(self):
        for counts in made_counts(416, 60):
            for k in range(1, 9):
                numbers, loss = true_greys(counts, k), loss_by(counts, best_scale(counts, k))
                for bound in (loss, loss - 1, 0, -5):
                    self.assertIs(judge_greys(counts, k, bound, numbers), True)
                for bound in (loss + 1, loss + 100):
                    self.assertIs(judge_greys(counts, k, bound, numbers), False)

    def test_right_numbers_show_that_no_scale_loses_less(self):
        """The theorem of [10.4], for changed numbers against all scales."""
        maker = Maker(417)
        right = wrong = 0
        for counts in made_counts(417, 120):
            k = maker.number(1, 3)
            loss, _ = plain_best(counts, k)
            numbers = [list(row) for row in true_greys(counts, k)]
            for _ in range(4):
                j, c = maker.number(0, k - 1), maker.number(0, 15)
                numbers[j][c] += maker.one_of((-1, -1, -3, 1, 50, -50, 0))
                told = tuple(map(tuple, numbers))
                for bound in (0, loss // 2, loss - 3, loss - 1, loss, loss + 1, loss * 2 + 1):
                    judged = judge_greys(counts, k, bound, told)
                    self.assertIs(judged, plain_right(counts, k, bound, told))
                    if judged:
                        right += 1
                        self.assertLessEqual(bound, loss)
                    else:
                        wrong += 1
        self.assertGreater(min(right, wrong), 300)

    def test_lesser_numbers_may_be_right_too(self):
        counts = counts_of_levels(((0, 0, 1, 9, 15),))
        numbers = true_greys(counts, 2)
        less = tuple(tuple(number - 1 if number >= 0 else number for number in row) for row in numbers)
        self.assertIs(judge_greys(counts, 2, 18, less), True)
        self.assertIs(judge_greys(counts, 2, 19, less), False)
        zeros = ((0,) * 16, (-1,) + (0,) * 15)
        self.assertIs(judge_greys((0,) * 16, 2, 0, zeros), True)
        self.assertIs(judge_greys((0,) * 16, 2, -3, ((-1,) * 16, (-1,) * 16)), True)
        # An integer below 0 is one as well, and does not free the rows behind it.
        self.assertIs(judge_greys((0,) * 16, 2, -1, ((-1,) * 16, (-1,) + (0,) * 15)), False)

    def test_numbers_of_other_forms(self):
        counts = counts_of_levels(((0, 0, 1, 9, 15),))
        numbers = true_greys(counts, 3)
        self.assertIs(judge_greys(counts, 3, 0, numbers), True)
        for wrong in (
            (), numbers[:2], numbers + numbers[2:], (numbers[0], numbers[1], numbers[2][:15]), (numbers[0], numbers[1], numbers[2] + (0,)),
            ((), (), ()), (numbers[0][:15],) + numbers[1:], (numbers[0], (0,) + numbers[1][1:], numbers[2]),
            (numbers[0], numbers[1], (-1, 0) + numbers[2][2:]), (numbers[0], (-2,) + numbers[1][1:], numbers[2]), (numbers[1], numbers[0], numbers[2]),
        ):
            self.assertIs(judge_greys(counts, 3, 0, wrong), False)


if __name__ == "__main__":
    unittest.main()
