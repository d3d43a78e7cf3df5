"""Point [15]: seas told otherwise; promise (i)."""

import random
import unittest
from itertools import permutations

from going import afloat_by_count, gone_over, lot_by_going, may_by_count, standings_of
from handing import check_handing
from sample_seas import BIG, MOST_SHIPS, helping_seas, small_seas
from shoalmates.otherwise import renumbered, renumbered_standing, sunk


def contrary(order):
    """The order that puts all ships back."""
    return [order.index(ship) for ship in range(len(order))]


def without(ships, gone):
    """The ships but that one, those behind it in number one less."""
    return [ship - (ship > gone) for ship in ships if ship != gone]


def some_seas():
    yield from list(small_seas())[::11]
    yield from helping_seas(71, 40, 6, 2)
    yield (BIG, 0, (BIG, 0, 3))


class RenumberedTests(unittest.TestCase):
    def test_written_out(self):
        self.assertEqual(renumbered((1, 3, (0, 7, 2)), [2, 0, 1]), (1, 3, (2, 0, 7)))
        self.assertEqual(renumbered_standing([2, 0, 1], (0,)), (1,))
        self.assertEqual(renumbered_standing([2, 0, 1], (1, 2)), (0, 2))
        self.assertEqual(renumbered_standing([2, 0, 1], ()), ())
        self.assertEqual(renumbered((4, 5, (6,)), [0]), (4, 5, (6,)))
        self.assertEqual(renumbered_standing([0], (0,)), (0,))
        self.assertEqual(renumbered_standing([3, 2, 1, 0], (0, 1)), (2, 3))

    def test_word_by_word(self):
        for sea in some_seas():
            here, there, draughts = sea
            for order in list(permutations(range(len(draughts))))[::5]:
                told = renumbered(sea, list(order))
                self.assertEqual(told[:2], (here, there))
                self.assertEqual(len(told[2]), len(draughts))
                for new, old in enumerate(order):
                    self.assertEqual(told[2][new], draughts[old])
                for standing in standings_of(sea):
                    lying = renumbered_standing(list(order), standing)
                    self.assertEqual(list(lying), sorted(set(lying)))
                    self.assertEqual({order[new] for new in lying}, set(standing))

    def test_the_contrary(self):
        rnd = random.Random(3)
        for sea in some_seas():
            order = rnd.sample(range(len(sea[2])), len(sea[2]))
            self.assertEqual(renumbered(renumbered(sea, order), contrary(order)), sea)
            for standing in standings_of(sea):
                there_and_back = renumbered_standing(contrary(order), renumbered_standing(order, standing))
                self.assertEqual(there_and_back, standing)

    def test_two_orders(self):
        rnd = random.Random(5)
        for sea in some_seas():
            many = len(sea[2])
            first, second = rnd.sample(range(many), many), rnd.sample(range(many), many)
            at_once = [first[ship] for ship in second]
            self.assertEqual(renumbered(renumbered(sea, first), second), renumbered(sea, at_once))
            for standing in standings_of(sea):
                self.assertEqual(renumbered_standing(second, renumbered_standing(first, standing)),
                                 renumbered_standing(at_once, standing))

    def test_who_may_go_is_the_same(self):
        rnd = random.Random(7)
        for sea in some_seas():
            order = rnd.sample(range(len(sea[2])), len(sea[2]))
            for standing in standings_of(sea):
                told = may_by_count(renumbered(sea, order), renumbered_standing(order, standing))
                self.assertEqual(sorted(order[ship] for ship in told), may_by_count(sea, standing))

    def test_24_ships(self):
        sea = (BIG, 7, tuple(range(100, 124)))
        order = [ship * 7 % MOST_SHIPS for ship in range(MOST_SHIPS)]
        self.assertEqual(renumbered(sea, order), (BIG, 7, tuple(100 + ship for ship in order)))
        self.assertEqual(renumbered_standing(order, tuple(range(24))), tuple(range(24)))
        self.assertEqual(renumbered_standing(order, (7, 14)), (1, 2))


class SunkTests(unittest.TestCase):
    def test_written_out(self):
        self.assertEqual(sunk((1, 3, (0, 7, 2)), (0, 2), 0), ((2, 3, (7, 2)), (1,)))
        self.assertEqual(sunk((1, 3, (0, 7, 2)), (0, 2), 1), ((1, 4, (0, 2)), (0, 1)))
        self.assertEqual(sunk((1, 3, (0, 7, 2)), (0, 2), 2), ((2, 3, (0, 7)), (0,)))
        self.assertEqual(sunk((0, 0, (5, 6)), (), 0), ((0, 1, (6,)), ()))
        self.assertEqual(sunk((0, 0, (5, 6)), (0, 1), 1), ((1, 0, (5,)), (0,)))
        self.assertEqual(sunk((BIG, BIG, (BIG,) * 24), (3, 20), 20), ((BIG + 1, BIG, (BIG,) * 23), (3,)))
        self.assertEqual(sunk((BIG, BIG, (BIG,) * 24), (3, 20), 0), ((BIG, BIG + 1, (BIG,) * 23), (2, 19)))

    def test_the_others_float_and_go_as_they_did(self):
        for sea in some_seas():
            for standing in standings_of(sea):
                for ship in range(len(sea[2]) if len(sea[2]) > 1 else 0):
                    left, lying = sunk(sea, standing, ship)
                    self.assertEqual(left[2], sea[2][:ship] + sea[2][ship + 1:])
                    self.assertEqual(list(lying), without(standing, ship))
                    self.assertEqual(sum(left[:2]), sum(sea[:2]) + 1)
                    self.assertEqual(left[0] - sea[0], int(ship in standing))
                    self.assertEqual(afloat_by_count(left, lying), without(afloat_by_count(sea, standing), ship))
                    self.assertEqual(may_by_count(left, lying), without(may_by_count(sea, standing), ship))

    def test_one_that_lies_fast_may_as_well_be_sunk(self):
        for sea in helping_seas(73, 60, 5, 2):
            for standing in standings_of(sea):
                lot = lot_by_going(sea, standing)
                fast = [ship for ship in range(len(sea[2])) if ship not in lot.movers]
                for ship in fast:
                    left, lying = sunk(sea, standing, ship)
                    self.assertEqual(lot_by_going(left, lying).movers, without(lot.movers, ship))
                    self.assertEqual(len(lot_by_going(left, lying).members), len(lot.members))

    def test_sunk_behind_a_crossing(self):
        for sea in helping_seas(75, 40, 5, 2):
            for standing in standings_of(sea):
                for goer in may_by_count(sea, standing):
                    for ship in range(len(sea[2])):
                        if ship != goer:
                            left, lying = sunk(sea, standing, ship)
                            behind = sunk(sea, gone_over(standing, goer), ship)
                            self.assertEqual((left, gone_over(lying, goer - (goer > ship))), behind)


class HandingInTests(unittest.TestCase):
    def test_all(self):
        sea = (1, 3, (0, 7, 2, 2))
        for standing in standings_of(sea):
            check_handing(self, renumbered, sea=sea, order=[2, 0, 3, 1])
            check_handing(self, renumbered_standing, order=[2, 0, 3, 1], standing=standing)
            for ship in range(4):
                check_handing(self, sunk, sea=sea, standing=standing, ship=ship)

    def test_kinds(self):
        told = renumbered([1, 3, [0, 7]], (1, 0))
        self.assertEqual((type(told), type(told[2])), (tuple, tuple))
        self.assertIs(type(renumbered_standing((1, 0), [0])), tuple)
        told = sunk([1, 3, [0, 7]], [0], 0)
        self.assertEqual((type(told), type(told[0]), type(told[0][2]), type(told[1])), (tuple,) * 4)


if __name__ == "__main__":
    unittest.main()
