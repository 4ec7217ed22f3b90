"""[7.6] and [7.7]: folded numbers, guesses, the guesses of rows, and passes."""

import unittest

from paintershouse.bits import gamma
from paintershouse.errors import NotAllowed
from paintershouse.guesses import best_guesses, folded, guessed, pass_points, unfolded
from paintershouse.pictures import points_of
from tests.making import Maker


def plain_folded(difference):
    """The words of [7.6]."""
    d = next(d for d in range(-8, 8) if (d - difference) % 16 == 0)
    return 2 * d if d >= 0 else -2 * d - 1


def plain_guess(guess, left, above, corner):
    if guess == 4:
        return min((left, above, corner), key=lambda level: abs(level - (left + above - corner)))
    return (0, left, above, (left + above) // 2)[guess]


def row_bits(picture, y, guess):
    """The differences of a row, told one by one."""
    def at(x, row):
        return picture[row][x] if x >= 0 and row >= 0 else (0, 0, 0, 0)
    bits = ""
    for x, pixel in enumerate(picture[y]):
        for k in range(4):
            told = plain_guess(guess, at(x - 1, y)[k], at(x, y - 1)[k], at(x - 1, y - 1)[k])
            bits += gamma(1 + plain_folded(pixel[k] - told))
    return bits


class FoldedTests(unittest.TestCase):
    def test_folded(self):
        self.assertEqual([folded(d) for d in (0, -1, 1, 15, -8, 8)], [0, 1, 2, 1, 15, 15])
        self.assertEqual([folded(d) for d in range(-8, 8)], [15, 13, 11, 9, 7, 5, 3, 1, 0, 2, 4, 6, 8, 10, 12, 14])
        for difference in range(-100, 100):
            self.assertEqual(folded(difference), plain_folded(difference))

    def test_unfolded(self):
        self.assertEqual([unfolded(k) for k in range(16)], [0, -1, 1, -2, 2, -3, 3, -4, 4, -5, 5, -6, 6, -7, 7, -8])
        for number in range(16):
            self.assertEqual(folded(unfolded(number)), number)

    def test_wrong_numbers(self):
        for number in (-1, 16, 100, -16):
            self.assertRaises(NotAllowed, unfolded, number)


class GuessedTests(unittest.TestCase):
    def test_each_guess(self):
        left, above, corner = (3, 3, 3, 3), (5, 2, 9, 0), (4, 4, 4, 4)
        wanted = [(0, 0, 0, 0), left, above, (4, 2, 6, 1), (4, 2, 9, 0)]
        self.assertEqual([guessed(guess, left, above, corner) for guess in range(5)], wanted)

    def test_plain_reading(self):
        for left in range(16):
            for above in range(16):
                for corner in range(16):
                    for guess in range(5):
                        told = guessed(guess, (left, 0, corner, 7), (above, left, 15, 7), (corner, above, 0, 7))
                        wanted = [(left, above, corner), (0, left, above), (corner, 15, 0), (7, 7, 7)]
                        self.assertEqual(told, tuple(plain_guess(guess, *levels) for levels in wanted))

    def test_the_nearest_level(self):
        # The aims are 5, 6, 2 and 5.
        self.assertEqual(guessed(4, (5, 4, 0, 2), (5, 8, 4, 6), (5, 6, 2, 3)), (5, 6, 2, 6))

    def test_of_several_nearest_ones_the_first(self):
        # Left and corner, or above and corner, are as near to the aim 6.
        self.assertEqual(guessed(4, (8, 2, 4, 6), (2, 8, 6, 4), (4, 4, 4, 4)), (8, 8, 6, 6))

    def test_wrong_guesses(self):
        for guess in (-1, 5, 6, 100):
            self.assertRaises(NotAllowed, guessed, guess, (0,) * 4, (0,) * 4, (0,) * 4)


class BestGuessesTests(unittest.TestCase):
    def test_plain_reading(self):
        maker = Maker(95)
        for wide, high in ((1, 1), (1, 5), (6, 1), (4, 4), (24, 3), (5, 9)):
            for k in range(4):
                picture = self.made(maker, wide, high, k)
                wanted = []
                for y in range(high):
                    sizes = [len(row_bits(picture, y, guess)) for guess in range(5)]
                    wanted.append(sizes.index(min(sizes)))
                self.assertEqual(best_guesses(picture), wanted)

    def made(self, maker, wide, high, k):
        """A picture of any pixels, and such where neighbours are alike."""
        if k == 0:
            return maker.picture(wide, high)
        return tuple(tuple(
            ((x * k) % 16, (x * y + maker.number(0, 1)) % 16, (x + y * k) % 16, 15) for x in range(wide)
        ) for y in range(high))

    def test_each_guess_can_be_best(self):
        def row(*levels):
            return tuple((level,) * 4 for level in levels)
        self.assertEqual(best_guesses((row(0, 0, 0, 0),)), [0])
        self.assertEqual(best_guesses((row(7, 7, 7, 7),)), [1])
        self.assertEqual(best_guesses((row(2, 9, 5), row(2, 9, 5)))[1], 2)
        self.assertEqual(best_guesses((row(8, 8), row(4, 6)))[1], 3)
        self.assertEqual(best_guesses((row(1, 1, 1, 1), row(1, 1, 5, 5)))[1], 4)

    def test_of_several_the_least(self):
        self.assertEqual(best_guesses((((1, 1, 1, 1),) * 2,) * 2), [1, 2])
        self.assertEqual(best_guesses((((0, 0, 0, 0),) * 5,) * 3), [0, 0, 0])

    def test_the_list_is_new(self):
        picture = (((1, 1, 1, 1),) * 2,) * 2
        best_guesses(picture).clear()
        self.assertEqual(best_guesses(picture), [1, 2])


class PassesTests(unittest.TestCase):
    def test_plain_reading(self):
        for wide, high in ((1, 1), (9, 3), (24, 24), (8, 8), (1, 24), (17, 2), (16, 9)):
            earlier = set()
            for number, step in enumerate((8, 4, 2, 1)):
                wanted = [
                    (x, y) for x, y in points_of(wide, high)
                    if x % step == 0 and y % step == 0 and (x, y) not in earlier
                ]
                self.assertEqual(pass_points(wide, high, number), wanted)
                earlier |= set(wanted)
            self.assertEqual(len(earlier), wide * high)

    def test_examples(self):
        self.assertEqual(pass_points(9, 3, 0), [(0, 0), (8, 0)])
        self.assertEqual(pass_points(9, 3, 1), [(4, 0)])
        self.assertEqual(pass_points(1, 1, 3), [])

    def test_wrong_values(self):
        for number in (-1, 4, 8):
            self.assertRaises(NotAllowed, pass_points, 9, 3, number)
        for wide, high in ((0, 3), (3, 0), (25, 3), (3, 25), (-1, 3)):
            for number in (0, 3, 4):
                self.assertRaises(NotAllowed, pass_points, wide, high, number)


if __name__ == "__main__":
    unittest.main()
