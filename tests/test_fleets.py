"""Point [12]: fleets of many alike ships; promise (f)."""

import random
import unittest
from itertools import product

from going import FleetLot, all_counts, fleet_lots, fleet_with, lots_by_going, standings_of
from handing import check_handing, with_lists
from sample_seas import BIG
from shoalmates.fleets import fleet_comes, fleet_least, fleet_most, fleet_movers, is_fleet, sea_of
from shoalmates.reach import comes_to, least_here, most_here, movers_of

FLEETS = (
    (0, 0, ((0, 1, 0),)),
    (0, 0, ((0, 0, 1),)),
    (3, 5, ((0, 2, 2), (4, 0, 0), (7, 0, 3))),
    (BIG, 0, ((0, BIG, 0), (1, 0, BIG), (BIG, 1, 1))),
    (1, 2, tuple((draught, 1, 2) for draught in range(12))),
    (1, 2, tuple((draught, BIG, 0) for draught in range(20))),
    (10 ** 20, 10 ** 20, ((10 ** 30, 10 ** 40, 0),)),
)


def turned(fleet):
    here, there, sorts = fleet
    return (there, here, tuple((draught, theirs, ours) for draught, ours, theirs in sorts))


def told_of(fleet):
    return (fleet_least(fleet), fleet_most(fleet), fleet_movers(fleet))


def small_fleets(seed, many, most_each=3):
    """Fleets of one to three sorts, some without a ship, of all kinds of depths."""
    rnd = random.Random(seed)
    while many:
        base = rnd.choice((0, 0, 2, BIG - 9))
        here, there = base + rnd.randint(0, 4), base + rnd.randint(0, 4)
        if rnd.random() < 0.2:
            here = rnd.choice((0, BIG))
        low = min(here, there)
        draughts = sorted({max(0, low + rnd.randint(-1, 8)) for _ in range(rnd.randint(1, 3))})
        sorts = tuple((draught, rnd.randint(0, most_each), rnd.randint(0, most_each))
                      for draught in draughts)
        if any(ours + theirs for draught, ours, theirs in sorts):
            many -= 1
            yield (here, there, sorts)


class IsFleetTests(unittest.TestCase):
    def test_fleets(self):
        for fleet in FLEETS:
            self.assertIs(is_fleet(fleet), True, fleet)

    def test_lists_for_tuples(self):
        for here, there, sorts in FLEETS:
            self.assertIs(is_fleet([here, there, sorts]), False)
            self.assertIs(is_fleet((here, there, list(sorts))), False)
            for place in range(len(sorts)):
                parts = sorts[:place] + (list(sorts[place]),) + sorts[place + 1:]
                self.assertIs(is_fleet((here, there, parts)), False)

    def test_one_number_otherwise(self):
        for wrong in (-1, -BIG, True, False, None, "0", "", (), (0,), [], [0], ((),)):
            self.assertIs(is_fleet((wrong, 0, ((0, 1, 1),))), False, wrong)
            self.assertIs(is_fleet((0, wrong, ((0, 1, 1),))), False, wrong)
            for place in range(3):
                part = [5, 1, 1]
                part[place] = wrong
                self.assertIs(is_fleet((0, 0, (tuple(part),))), False, part)
                self.assertIs(is_fleet((0, 0, ((4, 1, 1), tuple(part), (6, 0, 0)))), False, part)

    def test_one_part_otherwise(self):
        for wrong in (-1, 0, True, None, "", "abc", (), (1,), (1, 2), (1, 2, 3, 4), [], [[1, 2, 3]]):
            if wrong != ():
                self.assertIs(is_fleet((0, 0, wrong)), False, wrong)
            self.assertIs(is_fleet((0, 0, (wrong,))), False, wrong)
            self.assertIs(is_fleet((0, 0, ((0, 1, 1), wrong))), False, wrong)
            self.assertIs(is_fleet((0, 0, (wrong, (9, 1, 1)))), False, wrong)

    def test_draughts_that_do_not_rise(self):
        for draughts in ((0, 0), (1, 0), (0, 2, 1), (0, 1, 1), (5, 6, 7, 7), (2, 1, 0)):
            sorts = tuple((draught, 1, 1) for draught in draughts)
            self.assertIs(is_fleet((3, 3, sorts)), False, draughts)

    def test_no_ship_at_all(self):
        self.assertIs(is_fleet((0, 0, ())), False)
        self.assertIs(is_fleet((0, 0, ((0, 0, 0),))), False)
        self.assertIs(is_fleet((0, 0, ((0, 0, 0), (5, 0, 0)))), False)
        self.assertIs(is_fleet((0, 0, ((0, 0, 0), (5, 0, 1)))), True)
        self.assertIs(is_fleet((0, 0, ((0, 1, 0), (5, 0, 0)))), True)

    def test_things_of_any_make(self):
        sorts = ((0, 1, 1), (2, 1, 1))
        for thing in (None, True, 0, -1, "", "fleet", "0 0", (), [], (0,), (0, 0), (0, 0, 0),
                      (sorts,), (0, sorts), (sorts, 0, 0), (0, sorts, 0), (0, 0, sorts, 0),
                      (0, 0, sorts, sorts), (0, 0, (sorts,)), (0, 0, sorts + sorts),
                      (0, 0, sorts[::-1]), (0, 0, (0, 1, 1)), ((0, 0, sorts),),
                      (((((((0,),),),),),), 0, 0), (0, 0, ((((((0,),),),),),)), "abc"):
            self.assertIs(is_fleet(thing), False, thing)

    def test_by_name(self):
        for fleet in FLEETS:
            self.assertIs(is_fleet(thing=fleet), True)
            self.assertIs(is_fleet(thing=with_lists(fleet)), False)


class SeaOfTests(unittest.TestCase):
    def test_written_out(self):
        fleet = (3, 5, ((0, 2, 1), (4, 0, 0), (7, 0, 2), (9, 1, 0)))
        self.assertEqual(sea_of(fleet), ((3, 5, (0, 0, 0, 7, 7, 9)), (0, 1, 5)))
        self.assertEqual(sea_of((0, 0, ((0, 0, 1),))), ((0, 0, (0,)), ()))
        self.assertEqual(sea_of((0, 0, ((0, 1, 0),))), ((0, 0, (0,)), (0,)))
        self.assertEqual(sea_of((1, 1, ((2, 12, 12),))), ((1, 1, (2,) * 24), tuple(range(12))))
        self.assertEqual(sea_of((BIG, 1, ((BIG, 0, 2), (BIG + 1, 1, 1)))),
                         ((BIG, 1, (BIG, BIG, BIG + 1, BIG + 1)), (2,)))

    def test_as_many_of_each_where_they_lie(self):
        for fleet in small_fleets(1, 200):
            (here, there, draughts), standing = sea_of(fleet)
            self.assertEqual((here, there), fleet[:2])
            self.assertEqual(list(draughts), sorted(draughts))
            self.assertEqual(list(standing), sorted(set(standing)))
            for draught, ours, theirs in fleet[2]:
                ships = [ship for ship, depth in enumerate(draughts) if depth == draught]
                self.assertEqual([ship in standing for ship in ships],
                                 [True] * ours + [False] * theirs)

    def test_kinds(self):
        told = sea_of([3, 5, [[0, 2, 1], [7, 0, 2]]])
        self.assertIs(type(told), tuple)
        self.assertEqual([type(part) for part in told], [tuple, tuple])
        self.assertIs(type(told[0][2]), tuple)


class AsShipByShipTests(unittest.TestCase):
    def test_most_least_movers(self):
        for fleet in small_fleets(2, 600):
            sea, standing = sea_of(fleet)
            self.assertEqual(fleet_most(fleet), most_here(sea, standing), fleet)
            self.assertEqual(fleet_least(fleet), least_here(sea, standing), fleet)
            draughts = sorted({sea[2][ship] for ship in movers_of(sea, standing)})
            self.assertEqual(fleet_movers(fleet), draughts, fleet)

    def test_comes_by_any_numbering(self):
        for fleet in small_fleets(3, 60, 2):
            sea, standing = sea_of(fleet)
            lots = lots_by_going(sea)
            counts = {other: tuple(sum(1 for ship in other if sea[2][ship] == draught)
                                   for draught, ours, theirs in fleet[2])
                      for other in standings_of(sea)}
            reached = {counts[other] for other in lots[standing].members}
            for other in all_counts(fleet):
                self.assertIs(fleet_comes(fleet, fleet_with(fleet, other)), other in reached)

    def test_comes_where_the_same_numbers_do(self):
        for fleet in small_fleets(4, 300):
            sea, standing = sea_of(fleet)
            for counts in all_counts(fleet):
                other = fleet_with(fleet, counts)
                if comes_to(sea, standing, sea_of(other)[1]):
                    self.assertIs(fleet_comes(fleet, other), True)

    def test_all_by_going_through_the_counts(self):
        for fleet in small_fleets(5, 60):
            for counts, lot in fleet_lots(fleet).items():
                one = fleet_with(fleet, counts)
                self.assertEqual(told_of(one), (lot.least, lot.most, lot.movers), one)

    def test_all_pairs_of_counts(self):
        for fleet in small_fleets(6, 40, 2):
            lots = fleet_lots(fleet)
            for one, other in product(lots, lots):
                told = fleet_comes(fleet_with(fleet, one), fleet_with(fleet, other))
                self.assertIs(told, other in lots[one].members)

    def test_a_hundred_of_each(self):
        rnd = random.Random(8)
        for here, there, low, high in ((0, 0, 20, 70), (30, 0, 40, 80), (0, 150, 60, 90),
                                       (5, 5, 5, 104), (0, 0, 99, 100), (10, 90, 0, 120)):
            fleet = (here, there, ((low, 0, 100), (high, 0, 100)))
            for _ in range(12):
                counts = (rnd.randint(0, 100), rnd.randint(0, 100))
                one = fleet_with(fleet, counts)
                lot = FleetLot(one)
                self.assertEqual(told_of(one), (lot.least, lot.most, lot.movers), one)
                for _ in range(20):
                    other = (rnd.randint(0, 100), rnd.randint(0, 100))
                    self.assertIs(fleet_comes(one, fleet_with(fleet, other)), other in lot.members)

    def test_turned_about(self):
        for fleet in small_fleets(9, 400):
            many = sum(ours + theirs for draught, ours, theirs in fleet[2])
            self.assertEqual(fleet_most(fleet), many - fleet_least(turned(fleet)))
            self.assertEqual(fleet_movers(fleet), fleet_movers(turned(fleet)))
            for counts in all_counts(fleet)[::5]:
                other = fleet_with(fleet, counts)
                told = fleet_comes(fleet, other)
                self.assertIs(fleet_comes(turned(fleet), turned(other)), told)
                self.assertIs(fleet_comes(other, fleet), told)

    def test_sorts_without_any_ship_change_nothing(self):
        for here, there, sorts in small_fleets(10, 300):
            taken = {draught for draught, ours, theirs in sorts}
            bare = {max(0, here - 1), here + 1, there + 2, BIG + 50} - taken
            padded = (here, there, tuple(sorted(sorts + tuple((draught, 0, 0) for draught in bare))))
            self.assertTrue(is_fleet(padded))
            self.assertEqual(told_of(padded), told_of((here, there, sorts)))
            self.assertIs(fleet_comes(padded, padded), True)


class GreatFleetTests(unittest.TestCase):
    def test_one_sort(self):
        self.assertEqual(told_of((0, 0, ((0, BIG, 0),))), (0, BIG, [0]))
        self.assertEqual(told_of((0, 0, ((0, 0, BIG),))), (0, BIG, [0]))
        self.assertEqual(told_of((0, 0, ((1, 0, BIG),))), (0, 0, []))
        self.assertEqual(told_of((0, 0, ((1, 1, BIG - 1),))), (1, BIG - 1, [1]))
        half = BIG // 2
        self.assertEqual(told_of((0, 0, ((half - 1, half, half),))), (half - 1, half + 1, [half - 1]))
        self.assertEqual(told_of((0, 0, ((half, half, half),))), (half, half, []))
        self.assertEqual(told_of((BIG, BIG, ((BIG, 0, BIG),))), (0, BIG, [BIG]))

    def test_each_sort_lifts_the_next(self):
        lifting = tuple((place * BIG, 0, BIG) for place in range(12))
        self.assertEqual(told_of((0, 12 * BIG, lifting)),
                         (0, 12 * BIG, [place * BIG for place in range(12)]))
        broken = lifting[:5] + ((5 * BIG + 1, 0, BIG),) + lifting[6:]
        self.assertEqual(told_of((0, 12 * BIG, broken)),
                         (0, 5 * BIG, [place * BIG for place in range(5)]))
        self.assertEqual(told_of((1, 12 * BIG, broken)),
                         (0, 12 * BIG, [draught for draught, ours, theirs in broken]))

    def test_comes_of_great_ones(self):
        one = (0, 3 * BIG, ((0, 0, BIG), (BIG, 0, BIG), (3 * BIG, 7, 0)))
        for counts, wanted in (((BIG, BIG, 7), True), ((0, BIG, 7), True), ((BIG, 0, 7), True),
                               ((1, 2, 7), True), ((1, 2, 6), False), ((0, 0, 0), False)):
            other = fleet_with(one, counts)
            self.assertIs(fleet_comes(one, other), wanted, counts)
            self.assertIs(fleet_comes(turned(one), turned(other)), wanted, counts)

    def test_great_ones_that_stop(self):
        one = (0, 4 * BIG, ((0, 0, BIG), (BIG + 1, 0, BIG)))
        self.assertEqual(told_of(one), (0, BIG, [0]))
        self.assertIs(fleet_comes(one, fleet_with(one, (BIG, 0))), True)
        self.assertIs(fleet_comes(one, fleet_with(one, (BIG, 1))), False)
        self.assertIs(fleet_comes(one, fleet_with(one, (0, BIG))), False)
        self.assertEqual(told_of(fleet_with(one, (BIG, 1))), (1, 2 * BIG, [0, BIG + 1]))
        self.assertIs(fleet_comes(fleet_with(one, (BIG, 1)), fleet_with(one, (BIG, BIG))), True)

    def test_fast_ones_are_like_so_much_more_depth(self):
        # Ships too deep for any mark deepen both basins for ever, by as many as lie in each.
        rnd = random.Random(12)
        for here, there, sorts in small_fleets(13, 400):
            ours, theirs = rnd.randint(0, min(here, BIG // 2)), rnd.randint(0, min(there, BIG // 2))
            too_deep = 3 * BIG
            great = (here - ours, there - theirs, sorts + ((too_deep, ours, theirs),))
            least, most, movers = told_of((here, there, sorts))
            self.assertEqual(told_of(great), (least + ours, most + ours, movers), great)
            for counts in all_counts((here, there, sorts))[::3]:
                other = fleet_with((here, there, sorts), counts)
                wanted = fleet_comes((here, there, sorts), other)
                great_too = (here - ours, there - theirs, other[2] + ((too_deep, ours, theirs),))
                self.assertIs(fleet_comes(great, great_too), wanted)

    def test_twelve_sorts_all_here_or_all_there(self):
        for here, there in ((0, 0), (0, BIG), (BIG, 5), (BIG, BIG)):
            for shift in (0, 1, BIG // 3):
                sorts = tuple((place * BIG // 4 + shift, BIG * (place % 2), BIG * (1 - place % 2))
                              for place in range(12))
                fleet = (here, there, sorts)
                least, most, movers = told_of(fleet)
                self.assertTrue(0 <= least <= 6 * BIG <= most <= 12 * BIG)
                self.assertEqual(12 * BIG - least, fleet_most(turned(fleet)))
                self.assertEqual(movers, fleet_movers(turned(fleet)))
                self.assertIs(fleet_comes(fleet, fleet), True)

    def test_many_sorts_as_one_where_all_float(self):
        sorts = tuple((draught, BIG - draught, draught) for draught in range(12))
        self.assertEqual(told_of((BIG, BIG, sorts)), (0, 12 * BIG, list(range(12))))
        self.assertIs(fleet_comes((BIG, BIG, sorts), (BIG, BIG, turned((0, 0, sorts))[2])), True)


class HandingInTests(unittest.TestCase):
    def test_all(self):
        fleets = [fleet for fleet in FLEETS[:5]] + list(small_fleets(17, 30))
        for fleet in fleets:
            for function in (fleet_most, fleet_least, fleet_movers):
                check_handing(self, function, fleet=fleet)
            check_handing(self, fleet_comes, one=fleet, other=fleet)
            nobody = fleet_with(fleet, [0] * len(fleet[2]))
            check_handing(self, fleet_comes, one=fleet, other=nobody)
            check_handing(self, is_fleet, ("thing",), thing=fleet)
        for fleet in small_fleets(18, 30):
            check_handing(self, sea_of, fleet=fleet)

    def test_kinds(self):
        for fleet in (FLEETS[2], with_lists(FLEETS[2])):
            self.assertIs(type(fleet_most(fleet)), int)
            self.assertIs(type(fleet_least(fleet)), int)
            self.assertIs(type(fleet_movers(fleet)), list)
            self.assertIs(type(fleet_comes(fleet, fleet)), bool)
        self.assertEqual(fleet_movers((0, 0, ((1, 1, 0),))), [])

    def test_lists_and_tuples_beside_one_another(self):
        for fleet in small_fleets(19, 60):
            self.assertIs(fleet_comes(with_lists(fleet), fleet), True)
            self.assertIs(fleet_comes(fleet, with_lists(fleet)), True)


if __name__ == "__main__":
    unittest.main()
