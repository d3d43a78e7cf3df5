"""Point [11]: prices; promise (e)."""

import random
import unittest
from itertools import product

from going import far_by_going, gone_over, may_by_count, price_by_counts, price_by_going, standings_of
from handing import check_handing
from sample_seas import BIG, MOST_SHIPS, full_pairs, helping_seas, small_seas
from shoalmates.errors import Apart
from shoalmates.far import how_far
from shoalmates.prices import cheapest, paid

MOST = 10 ** 6
FEW = ((0, 0, (0,)), (0, 9, (1, 1)), (0, 9, (0, 2, 2)), (0, 0, (0, 0, 1)), (0, 0, (0, 1, 1)),
       (0, 2, (0, 0, 2)), (2, 0, (0, 0, 2)), (0, 1, (0, 0, 2, 2)), (0, 0, (0, 0, 2, 2, 2)),
       (BIG, BIG - 2, (BIG, BIG - 1, BIG)))


def price_lists(rnd, many):
    """Prices that are alike, nothing, small, unlike, and to the bound."""
    yield [1] * many
    yield [0] * many
    yield [rnd.choice((0, 0, 1, 2, 5)) for _ in range(many)]
    yield [rnd.randint(1, 30) for _ in range(many)]
    yield [rnd.choice((0, 1, MOST - 1, MOST)) for _ in range(many)]


def turned(sea, *standings):
    here, there, draughts = sea
    ships = range(len(draughts))
    return ((there, here, draughts), *(tuple(ship for ship in ships if ship not in one) for one in standings))


class WrittenOutTests(unittest.TestCase):
    def check(self, sea, one, other, prices, price, rows):
        told = cheapest(sea, one, other, prices)
        self.assertEqual(told[0], price)
        self.assertIn(told[1], rows)
        self.assertEqual(cheapest(sea, one, other, prices), told)
        for row in rows:
            self.assertEqual(paid(prices, row), price)

    def test_the_cheaper_helper(self):
        self.check((0, 0, (0, 0, 1)), (2,), (), [5, 3, 10], 16, [[1, 2, 1]])
        self.check((0, 0, (0, 0, 1)), (2,), (), [3, 5, 10], 16, [[0, 2, 0]])
        self.check((0, 0, (0, 0, 1)), (2,), (), [4, 4, 0], 8, [[0, 2, 0], [1, 2, 1]])
        self.check((0, 0, (0, 0, 1)), (0, 1), (0, 1, 2), [5, 3, 10], 16, [[1, 2, 1]])

    def test_many_helpers(self):
        sea = (0, BIG, (0, 0, 0, 1, 1, 1, 3))
        price, row = cheapest(sea, (), (6,), [9, 1, 2, 9, 3, 9, 7])
        self.assertEqual(price, 19)
        self.assertEqual(sorted(row), [1, 1, 2, 2, 4, 4, 6])
        price, row = cheapest(sea, (), (6,), [9, 8, 7, 3, 2, 1, 7])
        self.assertEqual(price, 7 + 2 * (7 + 1 + 2))
        self.assertEqual(sorted(row), [2, 2, 4, 4, 5, 5, 6])

    def test_a_ship_goes_thrice(self):
        self.check((0, 0, (0, 1, 1)), (), (0, 1, 2), [5, 1, 2], 18, [[0, 1, 0, 2, 0], [0, 2, 0, 1, 0]])
        sea, one, other = (0, 1, (0, 0, 2, 2)), (1,), (0, 1, 2, 3)
        self.check(sea, one, other, [7, 2, 1, 1], 13, [[0, 2, 1, 3, 1], [0, 3, 1, 2, 1]])
        self.check(sea, one, other, [2, 7, 1, 1], 8, [[0, 2, 0, 3, 0], [0, 3, 0, 2, 0]])

    def test_one_and_the_same(self):
        for sea in FEW:
            for standing in standings_of(sea):
                self.assertEqual(cheapest(sea, standing, standing, [3] * len(sea[2])), (0, []))

    def test_dear_ships_that_must_go(self):
        self.assertEqual(cheapest((5, 5, (0, 0)), (), (1,), [0, MOST]), (MOST, [1]))
        price, row = cheapest((5, 5, (0, 0)), (0,), (1,), [MOST, MOST])
        self.assertEqual((price, sorted(row)), (2 * MOST, [0, 1]))

    def test_apart(self):
        for sea, one, other in (((0, 0, (1,)), (), (0,)), ((0, 9, (1, 1)), (), (0,)), ((0, 9, (1, 1)), (0,), ()),
                                ((0, 9, (0, 2, 2)), (), (1,)), ((BIG, 0, (1, 1)), (0, 1), (0,))):
            with self.assertRaises(Apart) as caught:
                cheapest(sea, one, other, [1] * len(sea[2]))
            self.assertIs(type(caught.exception), Apart)

    def test_paid(self):
        self.assertEqual(paid([3, 5, 0], []), 0)
        self.assertEqual(paid([3, 5, 0], [1]), 5)
        self.assertEqual(paid([3, 5, 0], [0, 1, 2, 1, 0]), 16)
        self.assertEqual(paid([MOST] * 24, [23] * 200), 200 * MOST)
        self.assertEqual(paid((3, 5), (1, 1)), 10)
        self.assertEqual(paid([], []), 0)


class AsGoneThroughTests(unittest.TestCase):
    def check_told(self, sea, one, other, prices, price):
        told = cheapest(sea, one, other, prices)
        self.assertEqual(type(told), tuple)
        self.assertEqual(told[0], price, (sea, one, other, prices, told))
        reached = one
        for ship in told[1]:
            self.assertIn(ship, may_by_count(sea, reached), (sea, one, other, prices, told))
            reached = gone_over(reached, ship)
        self.assertEqual(reached, other, (sea, one, other, prices, told))
        self.assertEqual(sum(prices[ship] for ship in told[1]), price)
        self.assertEqual(paid(prices, told[1]), price)

    def check_sea(self, sea, prices):
        for one in standings_of(sea):
            least = price_by_going(sea, one, prices)
            for other in standings_of(sea):
                if other in least:
                    self.check_told(sea, one, other, prices, least[other])
                else:
                    self.assertRaises(Apart, cheapest, sea, one, other, prices)

    def test_all_pairs_of_small_seas(self):
        rnd = random.Random(3)
        for place, sea in enumerate(list(small_seas())[2::3]):
            lists = list(price_lists(rnd, len(sea[2])))
            self.check_sea(sea, lists[place % len(lists)])

    def test_all_pairs_of_few_seas_by_all_prices(self):
        rnd = random.Random(5)
        for sea in FEW:
            for prices in price_lists(rnd, len(sea[2])):
                self.check_sea(sea, prices)

    def test_pairs_of_seas_with_helpers(self):
        rnd = random.Random(7)
        for sea in helping_seas(61, 150, 8, 3):
            prices = rnd.choice(list(price_lists(rnd, len(sea[2]))))
            for one in rnd.sample(standings_of(sea), 4):
                least = price_by_going(sea, one, prices)
                for other in rnd.sample(sorted(least), min(len(least), 6)):
                    self.check_told(sea, one, other, prices, least[other])

    def test_from_below_to_above_with_all_prices_unlike(self):
        rnd = random.Random(11)
        for sea in helping_seas(63, 150, 8, 5):
            prices = rnd.sample(range(1, 40), len(sea[2]))
            lots = standings_of(sea)
            one = rnd.choice([standing for standing in lots if len(standing) <= 2])
            least = price_by_going(sea, one, prices)
            others = [other for other in least if len(other) >= len(sea[2]) - 2]
            for other in rnd.sample(others, min(len(others), 8)):
                self.check_told(sea, one, other, prices, least[other])
                self.check_told(sea, other, one, prices, least[other])

    def test_prices_alike_are_as_far(self):
        rnd = random.Random(13)
        for sea in helping_seas(65, 30, 6, 3):
            one = rnd.choice(standings_of(sea))
            for other, far in far_by_going(sea, one).items():
                self.assertEqual(cheapest(sea, one, other, [7] * len(sea[2]))[0], 7 * far)


class FullSeaTests(unittest.TestCase):
    check_told = AsGoneThroughTests.check_told

    def test_pairs_by_hand(self):
        for sea, one, other in full_pairs():
            self.assertEqual(len(sea[2]), MOST_SHIPS)
            for prices in ([1] * 24, [0] * 24, [MOST] * 24, [3 if ship in other else 1 for ship in range(24)],
                           [1 if draught == min(sea[2]) else 4 for draught in sea[2]],
                           [5 if draught == min(sea[2]) else 2 for draught in sea[2]]):
                price = price_by_counts(sea, one, other, prices)
                self.check_told(sea, one, other, prices, price)
                self.check_told(sea, other, one, prices, price)
                around, one_there, other_there = turned(sea, one, other)
                self.check_told(around, one_there, other_there, prices, price)

    def test_pairs_by_hand_with_unlike_prices(self):
        for sea, one, other in list(full_pairs())[:5]:
            prices = [MOST, 7] * 12
            self.check_told(sea, one, other, prices, price_by_counts(sea, one, other, prices))

    def test_bounds_of_unlike_prices(self):
        rnd = random.Random(17)
        for sea in helping_seas(67, 25, 24, 20):
            many = len(sea[2])
            one = other = tuple(sorted(rnd.sample(range(many), rnd.randint(0, many))))
            prices = [rnd.randint(0, MOST) for _ in range(many)]
            walked = []
            for _ in range(60):
                able = may_by_count(sea, other)
                if able:
                    walked.append(rnd.choice(able))
                    other = gone_over(other, walked[-1])
            price, row = cheapest(sea, one, other, prices)
            self.check_told(sea, one, other, prices, price)
            self.assertLessEqual(price, paid(prices, walked))
            self.assertGreaterEqual(len(row), how_far(sea, one, other))
            self.assertEqual(cheapest(sea, other, one, prices)[0], price)


class HandingInTests(unittest.TestCase):
    def test_all(self):
        for sea in FEW[:8]:
            prices = [3, 1, 4, 1, 5][:len(sea[2])]
            for one, other in list(product(standings_of(sea), repeat=2))[::3]:
                check_handing(self, cheapest, sea=sea, one=one, other=other, prices=prices)
        check_handing(self, paid, prices=[3, 1, 4], row=[2, 0, 2])
        check_handing(self, paid, prices=[3, 1, 4], row=[])

    def test_kinds(self):
        told = cheapest([0, 0, [0, 0, 1]], [2], [], (5, 3, 10))
        self.assertEqual((type(told), type(told[0]), type(told[1])), (tuple, int, list))
        same = cheapest([0, 0, [0, 0, 1]], [2], (2,), (5, 3, 10))
        self.assertEqual((type(same), type(same[0]), type(same[1])), (tuple, int, list))
        self.assertIs(type(paid((1,), ())), int)

    def test_told_rows_are_the_askers_own(self):
        sea, prices = (0, 0, (0, 0, 1)), [5, 3, 10]
        first, second = cheapest(sea, (2,), (), prices), cheapest(sea, (2,), (), prices)
        self.assertIsNot(first[1], second[1])
        first[1].append(0)
        self.assertEqual(second, (16, [1, 2, 1]))
        self.assertEqual(cheapest(sea, (2,), (), prices), second)
        self.assertEqual(prices, [5, 3, 10])


if __name__ == "__main__":
    unittest.main()
