"""[6.5] to [6.7]: asks on a shelf, plans, prices, and the least work."""

import itertools
import unittest

from paintershouse.errors import NotAllowed
from paintershouse.shelf import best_plan, best_prices, bound_of, least_work, plan_work
from tests.making import Maker

ASKS, COSTS = (1, 2, 3, 1, 2), (5, 3, 1, 5, 3)


def plain_least_work(asks, costs, places):
    """The least cost over all shelves that can come up, ask by ask."""
    shelves = {frozenset(): 0}
    for piece, cost in zip(asks, costs):
        later = {}
        for shelf, work in shelves.items():
            work += 0 if piece in shelf else cost
            whole = sorted(shelf | {piece})
            # Other pieces may be taken off at any time, so each smaller shelf comes up, too.
            for many in range(len(whole) + 1):
                for kept in itertools.combinations(whole, many):
                    if piece in kept and len(kept) <= places:
                        key = frozenset(kept)
                        later[key] = min(work, later.get(key, work))
        shelves = later
    return min(shelves.values())


def next_ask(asks, at):
    """The index of the next ask of the same piece, or None."""
    behind = [k for k in range(at + 1, len(asks)) if asks[k] == asks[at]]
    return behind[0] if behind else None


def plain_possible(asks, places, plan):
    """The words of [6.6]."""
    for at, stays in enumerate(plan):
        if stays and next_ask(asks, at) is None:
            return False
    for ask in range(len(asks)):
        running = [at for at in range(ask) if plan[at] and next_ask(asks, at) > ask]
        if len(running) > places - 1:
            return False
    return True


def plain_work(asks, costs, plan):
    saved = [next_ask(asks, at) for at, stays in enumerate(plan) if stays]
    return sum(cost for k, cost in enumerate(costs) if k not in saved)


def plain_bound(asks, costs, places, prices):
    """The words of [6.7]."""
    bound = sum(costs) - (places - 1) * sum(prices)
    for at in range(len(asks)):
        behind = next_ask(asks, at)
        if behind is not None:
            bound -= max(costs[at] - sum(prices[k] for k in range(at + 1, behind)), 0)
    return bound


def few_asks():
    """All asks of three pieces, up to five of them, and some longer ones, with some costs."""
    for many in range(6):
        for asks in itertools.product((0, 1, 2), repeat=many):
            yield asks, tuple((7, 3, 4)[piece] for piece in asks)
    maker = Maker(65)
    for _ in range(60):
        asks = tuple(maker.number(0, 4) for _ in range(maker.number(6, 11)))
        yield asks, costs_of(maker, asks)


def costs_of(maker, asks):
    known = {piece: maker.one_of((0, 1, maker.number(0, 9), 9999)) for piece in sorted(set(asks))}
    return tuple(known[piece] for piece in asks)


class WorkTests(unittest.TestCase):
    def check(self, asks, costs, places, wanted):
        plan, prices = best_plan(asks, costs, places), best_prices(asks, costs, places)
        self.assertEqual(least_work(asks, costs, places), wanted)
        self.assertTrue(plain_possible(asks, places, plan))
        self.assertEqual((len(plan), len(prices)), (len(asks), len(asks)))
        self.assertTrue(all(price >= 0 for price in prices))
        self.assertEqual(plain_work(asks, costs, plan), wanted)
        self.assertEqual(plain_bound(asks, costs, places, prices), wanted)
        self.assertEqual(plan_work(asks, costs, places, plan), wanted)
        self.assertEqual(bound_of(asks, costs, places, prices), wanted)

    def test_all_shelves_for_few_asks(self):
        for asks, costs in few_asks():
            for places in (1, 2, 3, 4):
                self.check(asks, costs, places, plain_least_work(asks, costs, places))

    def test_no_asks(self):
        for places in (1, 8):
            self.check((), (), places, 0)

    def test_one_place(self):
        self.check((4, 4, 4), (9, 9, 9), 1, 9)
        self.check((4, 5, 4), (9, 1, 9), 1, 19)
        self.check((4, 4, 5, 4, 4), (9, 9, 1, 9, 9), 1, 19)

    def test_eight_places(self):
        asks = tuple(range(9)) * 2
        self.check(asks, (5,) * 18, 8, 45 + 5)
        self.check(asks, (5, 5, 5, 5, 5, 5, 5, 5, 1) * 2, 8, 41 + 5)
        self.check(tuple(range(8)) * 2, (9,) * 16, 8, 72)

    def test_many_asks(self):
        maker = Maker(66)
        for places in range(1, 9):
            asks = tuple(maker.number(0, 11) for _ in range(60))
            costs = costs_of(maker, asks)
            plan, prices = best_plan(asks, costs, places), best_prices(asks, costs, places)
            self.assertTrue(plain_possible(asks, places, plan))
            # A plan and prices with the same work show that it is the least one.
            self.check(asks, costs, places, plain_work(asks, costs, plan))
            self.assertTrue(min(prices) >= 0)

    def test_more_places_never_cost_more(self):
        maker = Maker(67)
        asks = tuple(maker.number(0, 99) % 17 for _ in range(60))
        costs = costs_of(maker, asks)
        works = [least_work(asks, costs, places) for places in range(1, 9)]
        self.assertEqual(works, sorted(works, reverse=True))


class PlanTests(unittest.TestCase):
    def test_all_plans(self):
        for asks in ((0, 1, 0, 1, 0), (0, 0, 1, 1, 0, 1), (0, 1, 2, 0, 1, 2), (3,)):
            costs = tuple(piece + 2 for piece in asks)
            for places in (1, 2, 3):
                works = []
                for plan in itertools.product((0, 1), repeat=len(asks)):
                    if plain_possible(asks, places, plan):
                        works.append(plain_work(asks, costs, plan))
                        self.assertEqual(plan_work(asks, costs, places, plan), works[-1])
                    else:
                        self.assertRaises(NotAllowed, plan_work, asks, costs, places, plan)
                self.assertEqual(min(works), least_work(asks, costs, places))

    def test_wrong_plans(self):
        for plan in ((), (0,) * 4, (0,) * 6, (2, 0, 0, 0, 0), (-1, 0, 0, 0, 0), (0, 0, 1, 0, 0), (0, 0, 0, 0, 1)):
            self.assertRaises(NotAllowed, plan_work, ASKS, COSTS, 3, plan)
        self.assertRaises(NotAllowed, plan_work, ASKS, COSTS, 2, (1, 1, 0, 0, 0))
        self.assertRaises(NotAllowed, plan_work, ASKS, COSTS, 1, (1, 0, 0, 0, 0))
        self.assertEqual(plan_work(ASKS, COSTS, 3, (1, 1, 0, 0, 0)), 9)


class PricesTests(unittest.TestCase):
    def test_no_plan_has_less_work_than_a_bound(self):
        maker = Maker(68)
        for _ in range(300):
            asks = tuple(maker.number(0, 3) for _ in range(maker.number(0, 9)))
            costs, places = costs_of(maker, asks), maker.number(1, 8)
            prices = tuple(maker.one_of((0, 0, 1, maker.number(0, 9), 20000)) for _ in asks)
            bound = bound_of(asks, costs, places, prices)
            self.assertEqual(bound, plain_bound(asks, costs, places, prices))
            self.assertLessEqual(bound, least_work(asks, costs, places))

    def test_prices_of_0(self):
        self.assertEqual(bound_of(ASKS, COSTS, 8, (0,) * 5), 9)
        self.assertEqual(bound_of((), (), 8, ()), 0)

    def test_wrong_prices(self):
        for prices in ((), (0,) * 4, (0,) * 6, (0, 0, -1, 0, 0)):
            self.assertRaises(NotAllowed, bound_of, ASKS, COSTS, 2, prices)


class WrongShelvesTests(unittest.TestCase):
    def refuse(self, asks, costs, places):
        for call in (least_work, best_plan, best_prices):
            self.assertRaises(NotAllowed, call, asks, costs, places)
        for call in (plan_work, bound_of):
            self.assertRaises(NotAllowed, call, asks, costs, places, (0,) * len(asks))

    def allow(self, asks, costs, places):
        for call in (least_work, best_plan, best_prices):
            call(asks, costs, places)
        for call in (plan_work, bound_of):
            self.assertIs(type(call(asks, costs, places, (0,) * len(asks))), int)

    def test_asks(self):
        self.allow((1,) * 60, (2,) * 60, 1)
        self.refuse((1,) * 61, (2,) * 61, 1)
        self.allow((99, 0), (2, 3), 1)
        self.refuse((100,), (2,), 1)
        self.refuse((-1,), (2,), 1)

    def test_costs(self):
        self.allow((1, 2), (0, 9999), 1)
        self.refuse((1, 2), (0, 10000), 1)
        self.refuse((1, 2), (0, -1), 1)
        self.refuse((1, 2), (0,), 1)
        self.refuse((1, 2), (0, 1, 2), 1)
        self.refuse((1, 2, 1), (4, 4, 5), 1)

    def test_places(self):
        for places in (1, 8):
            self.allow(ASKS, COSTS, places)
        for places in (0, 9, -1):
            self.refuse(ASKS, COSTS, places)


if __name__ == "__main__":
    unittest.main()
