"""Point [5]: who is afloat, who may go, and what comes of going; promise (a)."""

import random
import unittest

from going import afloat_by_count, gone_over, may_by_count, standings_of
from handing import check_handing, outcome
from sample_seas import BIG, MOST_SHIPS, all_seas, small_seas, wide_seas
from shoalmates.crossing import afloat_ones, crossed, crossed_all, may_cross
from shoalmates.errors import MayNot
from shoalmates.steps import goers_at


def some_standings(sea):
    """Nobody, all, each second, each third, the first half, and one alone."""
    many = len(sea[2])
    ships = tuple(range(many))
    return sorted({(), ships, ships[::2], ships[1::3], ships[:many // 2], ships[-1:]})


def with_standings():
    for sea in small_seas():
        for standing in standings_of(sea):
            yield sea, standing
    for sea in wide_seas():
        for standing in some_standings(sea):
            yield sea, standing


def row_by_going(sea, standing, many, seed):
    """A row of so many that may go, and the standings behind each."""
    rnd = random.Random(seed)
    row, behind = [], []
    for _ in range(many):
        able = may_by_count(sea, standing)
        if not able:
            break
        ship = rnd.choice(able)
        standing = gone_over(standing, ship)
        row.append(ship)
        behind.append(standing)
    return row, behind


class WrittenOutTests(unittest.TestCase):
    def test_one_ship(self):
        for here, there, draught, standing, afloat, able in (
                (0, 0, 0, (), [0], [0]), (0, 0, 0, (0,), [0], [0]),
                (0, 0, 1, (), [], []), (3, 2, 3, (0,), [0], []), (3, 2, 3, (), [], []),
                (2, 3, 3, (), [0], []), (2, 3, 3, (0,), [], []),
                (BIG, BIG, BIG, (0,), [0], [0]), (BIG, BIG - 1, BIG, (0,), [0], [])):
            sea = (here, there, (draught,))
            self.assertEqual(afloat_ones(sea, standing), afloat)
            self.assertEqual(may_cross(sea, standing), able)

    def test_a_ship_is_not_counted_with_itself(self):
        self.assertEqual(afloat_ones((0, 9, (1, 1)), (0,)), [1])
        self.assertEqual(afloat_ones((0, 9, (1, 1)), (0, 1)), [0, 1])
        self.assertEqual(may_cross((0, 9, (1, 1)), (0,)), [1])
        self.assertEqual(may_cross((0, 9, (1, 1)), (0, 1)), [0, 1])
        self.assertEqual(may_cross((0, 9, (1, 1)), ()), [])

    def test_few_ships(self):
        sea = (1, 3, (0, 7, 2, 2))
        self.assertEqual(afloat_ones(sea, ()), [0, 2, 3])
        self.assertEqual(may_cross(sea, ()), [0])
        self.assertEqual(may_cross(sea, (0,)), [0, 2, 3])
        self.assertEqual(afloat_ones(sea, (1,)), [0, 2, 3])
        self.assertEqual(may_cross(sea, (0, 1, 2, 3)), [0, 2, 3])

    def test_24_ships(self):
        sea = (0, 0, (12,) * MOST_SHIPS)
        half = tuple(range(12))
        self.assertEqual(afloat_ones(sea, half), [])
        self.assertEqual(afloat_ones(sea, half + (12,)), list(half) + [12])
        self.assertEqual(may_cross(sea, half), [])
        eleven = (0, 0, (11,) * MOST_SHIPS)
        self.assertEqual(may_cross(eleven, half), list(range(24)))
        self.assertEqual(may_cross(eleven, ()), [])

    def test_crossed(self):
        sea = (1, 3, (0, 7, 2, 2))
        self.assertEqual(crossed(sea, (), 0), (0,))
        self.assertEqual(crossed(sea, (0,), 0), ())
        self.assertEqual(crossed(sea, (0,), 3), (0, 3))
        self.assertEqual(crossed(sea, (0, 3), 2), (0, 2, 3))
        self.assertEqual(crossed_all(sea, (), [0, 3, 2, 0, 2]), (3,))
        self.assertEqual(crossed_all(sea, (1,), [2, 0, 3]), (0, 1, 2, 3))

    def test_refused(self):
        sea = (1, 3, (0, 7, 2, 2))
        for standing, ship in (((), 1), ((), 2), ((), 3), ((1,), 1), ((2,), 1)):
            with self.assertRaises(MayNot) as caught:
                crossed(sea, standing, ship)
            self.assertEqual(caught.exception.ship, ship)

    def test_the_first_of_a_row_that_may_not(self):
        sea = (1, 3, (0, 7, 2, 2))
        for row, first in (([2, 1, 0], 2), ([0, 1, 2], 1), ([0, 0, 3, 1], 3), ([1], 1),
                           ([0, 2, 3, 0, 2, 3, 2, 0], 3)):
            with self.assertRaises(MayNot) as caught:
                crossed_all(sea, (), row)
            self.assertEqual(caught.exception.ship, first, row)


class AsCountedTests(unittest.TestCase):
    def test_afloat_and_may_cross(self):
        for sea, standing in with_standings():
            self.assertEqual(afloat_ones(sea, standing), afloat_by_count(sea, standing))
            self.assertEqual(may_cross(sea, standing), may_by_count(sea, standing))

    def test_crossed_or_refused(self):
        for sea, standing in with_standings():
            able = may_by_count(sea, standing)
            for ship in range(len(sea[2])):
                if ship in able:
                    self.assertEqual(crossed(sea, standing, ship), gone_over(standing, ship))
                else:
                    wanted = ("refused", MayNot, {"ship": ship})
                    self.assertEqual(outcome(crossed, sea, standing, ship), wanted)
                    self.assertEqual(outcome(crossed_all, sea, standing, [ship]), wanted)

    def test_each_crossing_can_be_gone_back(self):
        for sea, standing in with_standings():
            for ship in may_cross(sea, standing):
                self.assertEqual(crossed(sea, crossed(sea, standing, ship), ship), standing)

    def test_who_may_go_hangs_on_the_number_here_alone(self):
        for sea, standing in with_standings():
            for ship in range(len(sea[2])):
                step = len([other for other in standing if other != ship])
                self.assertEqual(ship in may_cross(sea, standing), ship in goers_at(sea, step))

    def test_a_deeper_ones_numbers_are_a_shallower_ones_too(self):
        for sea in all_seas():
            draughts = sea[2]
            numbers = [[step for step in range(len(draughts)) if ship in goers_at(sea, step)]
                       for ship in range(len(draughts))]
            for deep in range(len(draughts)):
                for shallow in range(len(draughts)):
                    if draughts[shallow] <= draughts[deep]:
                        self.assertLessEqual(set(numbers[deep]), set(numbers[shallow]))


class RowTests(unittest.TestCase):
    SEAS = ((0, 0, (0,)), (1, 3, (0, 7, 2, 2)), (2, 2, (3, 0, 2, 4, 3)), (0, 0, tuple(range(24))),
            (3, 5, (0, 1, 2, 3) * 6), (BIG - 3, BIG - 9, (BIG - 1, BIG, 5, BIG - 4) * 5))

    def test_bare_row(self):
        for sea in self.SEAS:
            for standing in some_standings(sea):
                for bare in ([], ()):
                    for handed in (standing, list(standing)):
                        told = crossed_all(sea, handed, bare)
                        self.assertEqual(told, standing)
                        self.assertIs(type(told), tuple)

    def test_behind_each_of_a_long_row(self):
        for seed, sea in enumerate(self.SEAS):
            for standing in some_standings(sea):
                row, behind = row_by_going(sea, standing, 200, seed)
                self.assertEqual(crossed_all(sea, standing, row), (behind or [standing])[-1])
                for many in range(0, len(row), 17):
                    self.assertEqual(crossed_all(sea, standing, row[:many + 1]), behind[many])

    def test_the_row_from_its_end_leads_back(self):
        for seed, sea in enumerate(self.SEAS):
            for standing in some_standings(sea):
                row, behind = row_by_going(sea, standing, 200, seed)
                self.assertEqual(crossed_all(sea, standing, row + row[::-1]), standing)

    def test_refused_in_a_long_row(self):
        for seed, sea in enumerate(self.SEAS):
            for standing in some_standings(sea):
                row, behind = row_by_going(sea, standing, 199, seed)
                reached = (behind or [standing])[-1]
                able = may_by_count(sea, reached)
                for ship in range(len(sea[2])):
                    if ship not in able:
                        told = outcome(crossed_all, sea, standing, row + [ship, 0, ship])
                        self.assertEqual(told, ("refused", MayNot, {"ship": ship}))

    def test_told_are_rising_tuples(self):
        for seed, sea in enumerate(self.SEAS):
            row, behind = row_by_going(sea, (), 200, seed)
            standing = []
            for ship in row:
                standing = crossed(sea, list(standing), ship)
                self.assertIs(type(standing), tuple)
                self.assertEqual(list(standing), sorted(set(standing)))


class HandingInTests(unittest.TestCase):
    def test_all(self):
        for sea in ((1, 3, (0, 7, 2, 2)), (2, 2, (3, 0, 2, 4, 3)), (0, 0, (0,)), (0, 0, (1,))):
            for standing in some_standings(sea):
                check_handing(self, afloat_ones, sea=sea, standing=standing)
                check_handing(self, may_cross, sea=sea, standing=standing)
                for ship in range(len(sea[2])):
                    check_handing(self, crossed, sea=sea, standing=standing, ship=ship)
                    for row in ([], [ship], [ship, ship], [0, ship, ship, 0]):
                        check_handing(self, crossed_all, sea=sea, standing=standing, row=row)

    def test_kinds(self):
        sea = (1, 3, (0, 7, 2, 2))
        for function in (afloat_ones, may_cross):
            told = function(sea, (0, 1))
            self.assertIs(type(told), list)
            self.assertTrue(all(type(ship) is int for ship in told))

    def test_somewhat_beyond_the_bounds(self):
        sea = (BIG + 5, BIG + 5, (BIG + 20,) * 40)
        self.assertEqual(may_cross(sea, tuple(range(20))), list(range(40)))
        self.assertEqual(crossed_all(sea, tuple(range(20)), [0, 39] * 150), tuple(range(20)))


if __name__ == "__main__":
    unittest.main()
