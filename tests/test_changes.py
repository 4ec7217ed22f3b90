"""[11.5] to [11.7]: what changes cost, keys and their work, the best keys, and prices with the theorem."""

import itertools
import unittest

from paintershouse.changes import are_prices, best_keys, best_prices, change_cost, keys_cost, works_of
from paintershouse.errors import NotAllowed
from tests.making import Maker
from tests.test_films import RED, WIDE, WRONG_FILMS

R, B, N = (15, 0, 0, 15), (0, 0, 15, 15), (0, 0, 0, 0)
ONE, TWO = ((R, R, B),), ((R, B, B),)


def plain_cost(first, second):
    """[11.5], by all rectangles and by the points one by one."""
    wide, high = len(first[0]), len(first)
    apart = {(x, y) for y in range(high) for x in range(wide) if first[y][x] != second[y][x]}
    if not apart:
        return 1
    framed = []
    for left, right in itertools.combinations(range(wide + 1), 2):
        for top, bottom in itertools.combinations(range(high + 1), 2):
            if all(left <= x < right and top <= y < bottom for x, y in apart):
                framed.append((right - left) * (bottom - top))
    begun = sum((x - 1, y) not in apart for x, y in apart)
    return min(2 + min(framed), 1 + 2 * begun + len(apart))


def plain_works(film, keys):
    works = []
    for k, (picture, _) in enumerate(film):
        if k in keys:
            works.append(len(picture) * len(picture[0]))
        else:
            works.append(works[-1] + plain_cost(film[k - 1][0], picture))
    return works


def plain_keys_cost(film, keys):
    alone = len(film[0][0]) * len(film[0][0][0])
    return sum(alone if k in keys else plain_cost(film[k - 1][0], film[k][0]) for k in range(len(film)))


def all_keys(film):
    for many in range(len(film)):
        for rest in itertools.combinations(range(1, len(film)), many):
            yield (0,) + rest


def quick_keys(film, limit):
    return [keys for keys in all_keys(film) if max(plain_works(film, keys)) <= limit]


def made_films(seed, many):
    """Films whose pictures often differ little, and limits for them."""
    maker = Maker(seed)
    for _ in range(many):
        wide, high = maker.one_of(((1, 1), (2, 1), (3, 2), (4, 3), (5, 1)))
        pictures = [maker.picture_of(wide, high, (R, B, N))]
        for _ in range(maker.number(0, 7)):
            rows = [list(row) for row in pictures[-1]]
            for _ in range(maker.one_of((0, 0, 1, 1, 2, wide * high))):
                rows[maker.number(0, high - 1)][maker.number(0, wide - 1)] = maker.one_of((R, B, N))
            pictures.append(tuple(map(tuple, rows)))
        film = tuple((picture, maker.number(1, 3)) for picture in pictures)
        yield maker, film, wide * high + maker.one_of((0, 0, 1, 2, 3, 5, 9, 100))


class CostTests(unittest.TestCase):
    def test_the_plain_reading(self):
        maker = Maker(441)
        for _ in range(400):
            wide, high = maker.number(1, 6), maker.number(1, 5)
            first = maker.picture_of(wide, high, (R, B, N))
            rows = [list(row) for row in first]
            for _ in range(maker.one_of((0, 1, 2, 3, 9, 40))):
                rows[maker.number(0, high - 1)][maker.number(0, wide - 1)] = maker.one_of((R, B, N))
            second = tuple(map(tuple, rows))
            self.assertEqual(change_cost(first, second), plain_cost(first, second))
            self.assertEqual(change_cost(first, second), change_cost(second, first))

    def test_examples(self):
        self.assertEqual((change_cost(ONE, TWO), change_cost(ONE, ONE)), (3, 1))
        # At all points: a rectangle; at two far ones: two runs.
        self.assertEqual(change_cost(((R,) * 24,) * 24, ((B,) * 24,) * 24), 2 + 576)
        self.assertEqual(change_cost(((R,) * 9,), ((B,) + (R,) * 7 + (B,),)), 7)
        self.assertEqual(change_cost(((R,) * 3,), ((B, R, B),)), 5)
        self.assertEqual(change_cost(((R,) * 4,), ((B, R, R, B),)), 6)
        self.assertEqual(change_cost(((R,) * 5,), ((B, R, R, R, B),)), 7)
        self.assertEqual(change_cost(((R,) * 9,), ((B, R, R, R, R, B, B, B, B),)), 10)
        self.assertEqual(change_cost(((R,), (R,)), ((B,), (B,))), 4)
        self.assertEqual(change_cost(((R,),), ((B,),)), 3)

    def test_other_sides(self):
        for other in (((R,) * 2,), ((R,) * 3,) * 2, ((R,),), ((R,),) * 3):
            self.assertRaises(NotAllowed, change_cost, ONE, other)
            self.assertRaises(NotAllowed, change_cost, other, ONE)


class KeysTests(unittest.TestCase):
    def test_works_and_costs(self):
        for _, film, limit in made_films(442, 40):
            for keys in all_keys(film):
                works = plain_works(film, keys)
                self.assertEqual(works_of(film, keys), works)
                self.assertEqual(keys_cost(film, max(works), keys), plain_keys_cost(film, keys))
                self.assertRaises(NotAllowed, keys_cost, film, max(works) - 1, keys)
                if max(works) <= limit:
                    self.assertEqual(keys_cost(film, limit, keys), plain_keys_cost(film, keys))

    def test_examples(self):
        film = ((ONE, 1), (TWO, 1), (TWO, 1))
        self.assertEqual(works_of(film, (0,)), [3, 6, 7])
        self.assertEqual(works_of(film, (0, 1)), [3, 3, 4])
        self.assertEqual(works_of(film, (0, 1, 2)), [3, 3, 3])
        self.assertEqual(keys_cost(film, 6, (0, 1)), 7)
        self.assertEqual(keys_cost(film, 7, (0,)), 7)
        self.assertRaises(NotAllowed, keys_cost, film, 6, (0,))

    def test_the_best_keys(self):
        several = 0
        for _, film, limit in made_films(443, 150):
            quick = quick_keys(film, limit)
            best = min(quick, key=lambda keys: (plain_keys_cost(film, keys), len(keys), keys))
            several += sum(plain_keys_cost(film, keys) == plain_keys_cost(film, best) for keys in quick) > 1
            self.assertEqual(best_keys(film, limit), best)
        self.assertGreater(several, 20)

    def test_several_best_ones(self):
        film = ((ONE, 1), (TWO, 1), (TWO, 1))
        # With the limit 7 one key costs as much as two.
        self.assertEqual(best_keys(film, 7), (0,))
        self.assertEqual(best_keys(film, 6), (0, 1))
        # One more key is needed somewhere, and costs as much at each place but the last one.
        film = ((ONE, 1), (TWO, 1), (ONE, 1), (TWO, 1))
        self.assertEqual([best_keys(film, limit) for limit in (3, 5, 6, 8, 9, 11, 12)], [(0, 1, 2, 3), (0, 1, 2, 3), (0, 2), (0, 2), (0, 1), (0, 1), (0,)])

    def test_limits_of_just_the_points(self):
        for film in (((ONE, 1),) * 5, ((ONE, 1), (TWO, 1)) * 20, ((ONE, 1),)):
            self.assertEqual(best_keys(film, 3), tuple(range(len(film))))
            self.assertEqual(best_prices(film, 3)[-1], 3 * len(film))
            self.assertEqual(best_keys(film, 10 ** 9), (0,))
        self.assertEqual(best_keys(((ONE, 1),) * 5, 4), (0, 1, 3))


class PricesTests(unittest.TestCase):
    def plain_right(self, film, limit, prices):
        """[11.7], span by span."""
        if len(prices) != len(film) + 1 or prices[0] != 0:
            return False
        for i, j in itertools.combinations(range(len(film) + 1), 2):
            costs = [plain_keys_cost(film[i:j], (0,))]
            if plain_works(film[i:j], (0,))[-1] <= limit and prices[j] - prices[i] > costs[0]:
                return False
        return True

    def test_right_prices(self):
        for _, film, limit in made_films(444, 120):
            prices = best_prices(film, limit)
            self.assertIs(type(prices), tuple)
            self.assertTrue(self.plain_right(film, limit, prices))
            self.assertIs(are_prices(film, limit, prices), True)
            self.assertEqual(prices[-1], plain_keys_cost(film, best_keys(film, limit)))

    def test_no_quick_keys_cost_less(self):
        """The theorem of [11.7], for changed prices against all quick keys."""
        right = wrong = 0
        for maker, film, limit in made_films(445, 60):
            least = min(plain_keys_cost(film, keys) for keys in quick_keys(film, limit))
            for _ in range(12):
                prices = list(best_prices(film, limit))
                for _ in range(maker.number(0, 3)):
                    prices[maker.number(0, len(prices) - 1)] += maker.one_of((-1, 1, -5, 2, 0))
                judged = are_prices(film, limit, tuple(prices))
                self.assertIs(judged, self.plain_right(film, limit, tuple(prices)))
                if judged:
                    right += 1
                    self.assertLessEqual(prices[-1], least)
                else:
                    wrong += 1
        self.assertGreater(min(right, wrong), 100)

    def test_examples(self):
        film = ((ONE, 1), (TWO, 1))
        self.assertIs(are_prices(film, 6, (0, 3, 6)), True)
        for prices in ((0, 3, 7), (0, 4, 6), (1, 3, 6), (0, 3), (0, 3, 6, 6), (), (0,), (-1, 3, 6)):
            self.assertIs(are_prices(film, 6, prices), False, prices)
        for prices in ((0, 3, 5), (0, 0, 0), (0, -5, -9), (0, 2, 5)):
            self.assertIs(are_prices(film, 6, prices), True, prices)
        # A limit below 6 leaves the second frame to be told by its picture.
        self.assertIs(are_prices(film, 5, (0, 3, 6)), True)
        self.assertIs(are_prices(((ONE, 1), (ONE, 1)), 3, (0, 3, 6)), True)
        self.assertIs(are_prices(((ONE, 1), (ONE, 1)), 4, (0, 3, 6)), False)
        self.assertIs(are_prices(((ONE, 1), (ONE, 1)), 4, (0, 3, 4)), True)


class WrongValuesTests(unittest.TestCase):
    def test_films(self):
        for film in WRONG_FILMS:
            for call, told in (
                (works_of, ((0,),)), (keys_cost, (600, (0,))), (best_keys, (600,)), (best_prices, (600,)), (are_prices, (600, (0, 1))),
            ):
                self.assertRaises(NotAllowed, call, film, *told)

    def test_keys(self):
        film = ((ONE, 1), (TWO, 1), (TWO, 1))
        for keys in ((), (1,), (0, 0), (0, 2, 1), (0, 3), (-1, 0), (0, -1), (0, 1, 1), (1, 2), (0, 1, 2, 3)):
            self.assertRaises(NotAllowed, works_of, film, keys)
            self.assertRaises(NotAllowed, keys_cost, film, 100, keys)

    def test_limits(self):
        for film, least in ((((ONE, 1), (TWO, 1)), 3), (((RED, 1),), 1), (((WIDE, 2),), 2)):
            for limit in (least - 1, 0, -1):
                for call, told in ((best_keys, ()), (best_prices, ()), (are_prices, ((0, 1),))):
                    self.assertRaises(NotAllowed, call, film, limit, *told)
                self.assertRaises(NotAllowed, keys_cost, film, limit, (0,))
            self.assertEqual(best_keys(film, least)[0], 0)


if __name__ == "__main__":
    unittest.main()
