"""Point [14]: how many standings come to one another, how many such lots there are; promise (h)."""

import random
import time
import unittest
from math import comb

from going import lots_by_going, standings_of
from handing import check_handing
from sample_seas import BIG, small_seas
from shoalmates.counting import families_many, family_size
from shoalmates.crossing import crossed, may_cross
from shoalmates.seas import other_side, turned_sea


def mixed_sea(rnd, ships):
    """A sea of so many ships, with draughts of one sort or of many."""
    base = rnd.choice((0, 0, 4, BIG - 70))
    here, there = base + rnd.randint(0, 5), base + rnd.randint(0, 5)
    if rnd.random() < 0.2:
        there = rnd.choice((0, BIG))
    low = min(here, there)
    heights = [max(0, low + rnd.randint(-1, ships)) for _ in range(rnd.randint(1, ships))]
    return (here, there, tuple(rnd.choice(heights) for _ in range(ships)))


class WrittenOutTests(unittest.TestCase):
    def test_one_ship(self):
        self.assertEqual(family_size((0, 0, (0,)), ()), 2)
        self.assertEqual(families_many((0, 0, (0,))), 1)
        self.assertEqual(family_size((0, 0, (1,)), ()), 1)
        self.assertEqual(family_size((0, 0, (1,)), (0,)), 1)
        self.assertEqual(families_many((0, 0, (1,))), 2)

    def test_few_ships(self):
        sea = (0, 9, (0, 2, 2))
        self.assertEqual(family_size(sea, ()), 2)
        self.assertEqual(family_size(sea, (0,)), 2)
        self.assertEqual(family_size(sea, (1,)), 6)
        self.assertEqual(families_many(sea), 2)
        self.assertEqual(family_size((0, 9, (1, 1)), (0, 1)), 3)
        self.assertEqual(families_many((0, 9, (1, 1))), 2)

    def test_60_ships_that_all_go_or_none(self):
        for depth in (0, 5, BIG):
            free, fast = (depth, depth, (depth,) * 60), (depth, depth, (depth + 60,) * 60)
            for standing in ((), (7,), tuple(range(60)), tuple(range(0, 60, 2))):
                self.assertEqual(family_size(free, standing), 2 ** 60)
                self.assertEqual(family_size(fast, standing), 1)
            self.assertEqual(families_many(free), 1)
            self.assertEqual(families_many(fast), 2 ** 60)

    def test_60_ships_of_one_sort(self):
        for draught in range(1, 30):
            sea = (0, 0, (draught,) * 60)
            size = sum(comb(60, many) for many in range(draught, 61 - draught))
            alone = 2 * sum(comb(60, many) for many in range(draught))
            self.assertEqual(families_many(sea), 1 + alone)
            for many in (0, draught - 1, draught, 30, 60 - draught, 61 - draught, 60):
                wanted = size if draught <= many <= 60 - draught else 1
                self.assertEqual(family_size(sea, tuple(range(many))), wanted, (draught, many))

    def test_60_ships_of_60_draughts(self):
        rising = tuple(range(60))
        self.assertEqual(family_size((0, 60, rising), ()), 2 ** 60)
        self.assertEqual(families_many((0, 60, rising)), 1)
        self.assertEqual(family_size((60, 0, rising), rising), 2 ** 60)
        # With no ship of draught 0 an empty basin stays empty, and all others come together.
        lifted = tuple(range(1, 60)) + (59,)
        self.assertEqual(family_size((0, 60, lifted), ()), 1)

    def test_two_sorts(self):
        # Draughts above the top mark lie fast: each lying of theirs is like other depths.
        for fixed_here in range(11):
            sea = (10, 10, (0,) * 20 + (90,) * 10)
            standing = tuple(range(20, 20 + fixed_here))
            self.assertEqual(family_size(sea, standing), 2 ** 20)
        self.assertEqual(families_many((10, 10, (0,) * 20 + (90,) * 10)), 2 ** 10)


class AsGoneThroughTests(unittest.TestCase):
    def check_sea(self, sea):
        lots = lots_by_going(sea)
        for standing, lot in lots.items():
            self.assertEqual(family_size(sea, standing), len(lot.members), (sea, standing))
        self.assertEqual(families_many(sea), len({id(lot) for lot in lots.values()}), sea)

    def test_small_seas(self):
        for sea in small_seas():
            self.check_sea(sea)

    def test_more_ships(self):
        rnd = random.Random(2)
        for _ in range(150):
            self.check_sea(mixed_sea(rnd, rnd.randint(4, 7)))
        for _ in range(6):
            self.check_sea(mixed_sea(rnd, 9))

    def test_sums_over_all_lots(self):
        rnd = random.Random(3)
        for _ in range(40):
            ships = rnd.randint(1, 8)
            sea = mixed_sea(rnd, ships)
            sizes = [family_size(sea, standing) for standing in standings_of(sea)]
            lots = 0
            for size in set(sizes):
                self.assertEqual(sizes.count(size) % size, 0)
                lots += sizes.count(size) // size
            self.assertEqual(families_many(sea), lots)


class ManyShipsTests(unittest.TestCase):
    def test_turned_about(self):
        rnd = random.Random(5)
        for _ in range(60):
            ships = rnd.randint(10, 60)
            sea = mixed_sea(rnd, ships)
            standing = tuple(ship for ship in range(ships) if rnd.random() < 0.5)
            turned, left = turned_sea(sea), other_side(sea, standing)
            self.assertEqual(family_size(sea, standing), family_size(turned, left))
            self.assertEqual(families_many(sea), families_many(turned))

    def test_it_is_the_same_from_all_of_a_lot(self):
        rnd = random.Random(7)
        for _ in range(30):
            ships = rnd.randint(20, 60)
            sea = mixed_sea(rnd, ships)
            standing = tuple(ship for ship in range(ships) if rnd.random() < 0.5)
            size = family_size(sea, standing)
            for _ in range(10):
                able = may_cross(sea, standing)
                if able:
                    standing = crossed(sea, standing, rnd.choice(able))
                self.assertEqual(family_size(sea, standing), size)
            self.assertLessEqual(size, 2 ** ships)
            self.assertLessEqual(families_many(sea) + size, 2 ** ships + 1)

    def test_a_fast_ship_more_is_like_one_more_depth(self):
        rnd = random.Random(9)
        for _ in range(40):
            ships = rnd.randint(5, 59)
            here, there, draughts = mixed_sea(rnd, ships)
            standing = tuple(ship for ship in range(ships) if rnd.random() < 0.5)
            size = family_size((here + 1, there, draughts), standing)
            deeper = (here, there, draughts + (3 * BIG,))
            self.assertEqual(family_size(deeper, standing + (ships,)), size)
            lots = families_many((here + 1, there, draughts)) + families_many((here, there + 1, draughts))
            self.assertEqual(families_many(deeper), lots)

    def test_in_a_short_time(self):
        begun = time.perf_counter()
        rnd = random.Random(11)
        for _ in range(50):
            sea = mixed_sea(rnd, 60)
            families_many(sea)
            family_size(sea, tuple(range(30)))
        # A moment in truth; going through the standings would take years.
        self.assertLess(time.perf_counter() - begun, 60)


class HandingInTests(unittest.TestCase):
    def test_all(self):
        for sea in ((1, 3, (0, 7, 2, 2)), (0, 9, (0, 2, 2)), (0, 0, (1,)), (0, 0, (20,) * 60)):
            check_handing(self, families_many, sea=sea)
            for standing in ((), (0,), tuple(range(len(sea[2])))):
                check_handing(self, family_size, sea=sea, standing=standing)

    def test_kinds(self):
        self.assertIs(type(family_size([1, 3, [0, 7, 2, 2]], [0])), int)
        self.assertIs(type(families_many([1, 3, [0, 7, 2, 2]])), int)


if __name__ == "__main__":
    unittest.main()
