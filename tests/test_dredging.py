"""Point [13]: dredging; promise (g)."""

import random
import unittest
from itertools import product

from going import gone_over, lot_by_going, lots_by_going, may_by_count, standings_of
from handing import check_handing
from sample_seas import BIG, MOST_SHIPS, helping_seas, small_seas
from shoalmates.dredging import deepened, freed_by, least_dredged
from shoalmates.reach import comes_to, movers_of

SIDES = ("here", "there")
FEW = ((0, 0, (0,)), (0, 0, (1,)), (0, 9, (1, 1)), (9, 0, (1, 1)), (0, 9, (0, 2, 2)), (1, 1, (2, 1, 3)),
       (0, 1, (5, 5, 5)), (2, 0, (3, 0, 6)), (1, 3, (0, 7, 2, 2)))


def deeper(sea, side, more):
    here, there, draughts = sea
    return (here + more, there, draughts) if side == "here" else (here, there + more, draughts)


def lots_by_depth(sea, side):
    """All lots of the sea at each depth from 0 on, to one at which all ships float there."""
    return [lots_by_going(deeper(sea, side, more)) for more in range(max(sea[2]) + 2)]


class WrittenOutTests(unittest.TestCase):
    def test_deepened(self):
        self.assertEqual(deepened((1, 3, (0, 7)), "here", 2), (3, 3, (0, 7)))
        self.assertEqual(deepened((1, 3, (0, 7)), "there", 2), (1, 5, (0, 7)))
        self.assertEqual(deepened((1, 3, (0, 7)), "here", 0), (1, 3, (0, 7)))
        self.assertEqual(deepened((0, 0, (0,)), "there", BIG), (0, BIG, (0,)))
        self.assertEqual(deepened((BIG, BIG, (BIG,)), "here", BIG), (2 * BIG, BIG, (BIG,)))
        sixty = tuple(range(60))
        self.assertEqual(deepened((5, 6, sixty), "here", 7), (12, 6, sixty))
        self.assertEqual(deepened((5, 6, sixty), "there", 7), (5, 13, sixty))

    def test_one_ship(self):
        sea = (2, 9, (5,))
        self.assertEqual(least_dredged(sea, (), (0,), "here"), 3)
        self.assertIsNone(least_dredged(sea, (), (0,), "there"))
        self.assertEqual(freed_by(sea, (), "here"), [3])
        self.assertEqual(freed_by(sea, (), "there"), [None])
        self.assertEqual(freed_by((5, 5, (5,)), (), "here"), [0])
        self.assertEqual(least_dredged((5, 5, (5,)), (), (0,), "there"), 0)

    def test_neither_side_alone_does(self):
        sea = (0, 0, (1,))
        for side in SIDES:
            self.assertIsNone(least_dredged(sea, (), (0,), side))
            self.assertEqual(freed_by(sea, (), side), [None])
            self.assertEqual(freed_by(sea, (0,), side), [None])

    def test_one_helps_the_next(self):
        sea = (0, 9, (2, 3, 3))
        self.assertEqual(freed_by(sea, (), "here"), [2, 2, 2])
        self.assertEqual(least_dredged(sea, (), (0, 1, 2), "here"), 2)
        self.assertEqual(freed_by((0, 9, (2, 3, 5)), (), "here"), [2, 2, 3])
        self.assertEqual(freed_by((0, 9, (2, 3, 12)), (), "here"), [2, 2, None])
        self.assertEqual(freed_by((9, 0, (2, 3, 5)), (0, 1, 2), "there"), [2, 2, 3])

    def test_nothing_need_be_done(self):
        for sea in FEW:
            for side in SIDES:
                for standing in standings_of(sea):
                    self.assertEqual(least_dredged(sea, standing, standing, side), 0)

    def test_near_the_bound(self):
        sea = (0, BIG, tuple(BIG - 7 * ship for ship in range(MOST_SHIPS)))
        least = BIG - 7 * 23
        self.assertEqual(least_dredged(sea, (), (23,), "here"), least)
        self.assertEqual(least_dredged(sea, (), (22, 23), "here"), BIG - 7 * 22 - 1)
        self.assertEqual(least_dredged(sea, (), tuple(range(24)), "here"), BIG - 23)
        self.assertEqual(freed_by(sea, (), "here"), [BIG - 7 * ship - (23 - ship) for ship in range(24)])
        self.assertEqual(freed_by(sea, (), "there"), [None] * 24)
        self.assertEqual(freed_by((BIG, BIG, (BIG,) * 24), (), "here"), [0] * 24)
        self.assertEqual(freed_by((0, BIG, (BIG,)), (), "here"), [BIG])


class AsGoneThroughTests(unittest.TestCase):
    def check_sea(self, sea, side):
        depths = lots_by_depth(sea, side)
        standings = standings_of(sea)
        for one in standings:
            for other in standings:
                enough = [more for more, lots in enumerate(depths) if other in lots[one].members]
                self.assertEqual(least_dredged(sea, one, other, side), min(enough, default=None), (sea, one, other))
            freeing = [[more for more, lots in enumerate(depths) if ship in lots[one].movers]
                       for ship in range(len(sea[2]))]
            wanted = [min(enough, default=None) for enough in freeing]
            self.assertEqual(freed_by(sea, one, side), wanted, (sea, one, side))

    def test_small_seas(self):
        for place, sea in enumerate(list(small_seas())[::3] + list(FEW)):
            self.check_sea(sea, SIDES[place % 2])
            if sea in FEW:
                self.check_sea(sea, SIDES[1 - place % 2])

    def test_more_ships(self):
        rnd = random.Random(23)
        for _ in range(24):
            many = rnd.randint(3, 5)
            sea = (rnd.randint(0, 3), rnd.randint(0, 8), tuple(rnd.randint(0, 8) for _ in range(many)))
            self.check_sea(sea, rnd.choice(SIDES))

    def test_far_above_as_near_nought(self):
        rnd = random.Random(29)
        for _ in range(60):
            many = rnd.randint(1, 4)
            here, there = rnd.randint(0, 4), rnd.randint(0, 9)
            draughts = tuple(rnd.randint(here, here + 6) for _ in range(many))
            small = (here, there, draughts)
            great = (here + BIG - 9, there + BIG - 9, tuple(draught + BIG - 9 for draught in draughts))
            for standing in standings_of(small):
                for side in SIDES:
                    self.assertEqual(freed_by(great, standing, side), freed_by(small, standing, side))
                    self.assertEqual(least_dredged(great, standing, (0,), side),
                                     least_dredged(small, standing, (0,), side))


class OneLessTests(unittest.TestCase):
    def check_least(self, sea, side, least, does):
        if least is None:
            self.assertFalse(does(deeper(sea, side, 3 * BIG)))
            return
        self.assertTrue(does(deeper(sea, side, least)))
        if least:
            self.assertFalse(does(deeper(sea, side, least - 1)))

    def test_24_ships(self):
        rnd = random.Random(37)
        told = []
        for sea in helping_seas(51, 25, MOST_SHIPS, MOST_SHIPS - 2):
            here, there, draughts = sea
            far = rnd.choice((0, 3, min(here, BIG - 60), min(here, 10)))
            sea = (here - min(here, far), there, draughts)
            one = tuple(sorted(rnd.sample(range(len(draughts)), rnd.randint(0, 12))))
            other = tuple(sorted(rnd.sample(range(len(draughts)), rnd.randint(0, 24) % len(draughts))))
            for side in SIDES:
                least = least_dredged(sea, one, other, side)
                self.check_least(sea, side, least, lambda deep: comes_to(deep, one, other))
                freed = freed_by(sea, one, side)
                self.assertEqual(len(freed), len(draughts))
                for ship, least in enumerate(freed):
                    self.check_least(sea, side, least, lambda deep: ship in movers_of(deep, one))
                told += freed
        self.assertTrue(None in told and 0 in told and max(least or 0 for least in told) > 0)

    def test_what_comes_there_needs_nothing(self):
        rnd = random.Random(41)
        for sea in helping_seas(53, 20, 6, 3):
            one = other = rnd.choice(standings_of(sea))
            for _ in range(9):
                able = may_by_count(sea, other)
                other = gone_over(other, rnd.choice(able)) if able else other
            movers = lot_by_going(sea, one).movers
            for side in SIDES:
                self.assertEqual(least_dredged(sea, one, other, side), 0)
                freed = freed_by(sea, one, side)
                self.assertEqual([ship for ship, least in enumerate(freed) if least == 0], movers)

    def test_the_other_side_of_it(self):
        for sea in FEW:
            here, there, draughts = sea
            around = (there, here, draughts)
            for one, other in product(standings_of(sea), repeat=2):
                one_there, other_there = (tuple(ship for ship in range(len(draughts)) if ship not in standing)
                                          for standing in (one, other))
                self.assertEqual(least_dredged(sea, one, other, "here"),
                                 least_dredged(around, one_there, other_there, "there"))
                self.assertEqual(least_dredged(sea, one, other, "there"), least_dredged(sea, other, one, "there"))
                self.assertEqual(freed_by(sea, one, "there"), freed_by(around, one_there, "here"))


class HandingInTests(unittest.TestCase):
    def test_all(self):
        for sea in FEW:
            for side in SIDES:
                check_handing(self, deepened, sea=sea, side=side, more=4)
                for one, other in list(product(standings_of(sea), repeat=2))[::5]:
                    check_handing(self, least_dredged, sea=sea, one=one, other=other, side=side)
                    check_handing(self, freed_by, sea=sea, standing=one, side=side)

    def test_kinds(self):
        told = deepened([1, 3, [0, 7]], "here", 1)
        self.assertEqual((type(told), type(told[2])), (tuple, tuple))
        self.assertIs(type(least_dredged([2, 9, [5]], [], [0], "here")), int)
        self.assertIs(type(freed_by([2, 9, [5]], [], "here")), list)

    def test_what_was_told_is_handed_in(self):
        sea = (BIG, BIG, (BIG,) * 24)
        for _ in range(3):
            sea = deepened(deepened(sea, "here", BIG), "there", BIG)
        self.assertEqual(sea, (4 * BIG, 4 * BIG, (BIG,) * 24))
        self.assertEqual(least_dredged(sea, (), (3,), "here"), 0)


if __name__ == "__main__":
    unittest.main()
