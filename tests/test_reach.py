"""Point [7]: how many can come to lie here, who can ever go, which standing comes to which."""

import random
import unittest

from going import afloat_by_count, fleet_lots, fleet_with, lots_by_going, standings_of
from handing import check_handing
from sample_seas import BIG, MOST_SHIPS, small_seas
from shoalmates.crossing import crossed_all, may_cross
from shoalmates.reach import comes_to, least_here, most_here, movers_of


def mixed_seas(seed, many, most_ships):
    """Seas of a few ships, depths near one another and far, small and near the bound."""
    rnd = random.Random(seed)
    for _ in range(many):
        ships = rnd.randint(1, most_ships)
        base = rnd.choice((0, 0, 3, BIG - 12))
        here, there = base + rnd.randint(0, 4), base + rnd.randint(0, 4)
        if rnd.random() < 0.25:
            there = rnd.choice((0, 1, BIG))
        low = min(here, there)
        heights = [min(BIG, max(0, low + rnd.randint(-1, ships))) for _ in range(rnd.randint(1, ships))]
        yield (here, there, tuple(rnd.choice(heights) for _ in range(ships)))


def going_seas():
    yield from small_seas()
    yield from mixed_seas(7, 250, 6)


def full_fleets():
    """Fleets of 24 ships of few sorts: few enough counts to go through them all."""
    for here, there, draughts, manies in (
            (0, 0, (0, 6, 11), (3, 11, 10)), (2, 5, (2, 9, 14), (8, 8, 8)),
            (0, 9, (1, 4, 16), (2, 12, 10)), (9, 0, (3, 10, 15), (9, 13, 2)),
            (BIG - 20, BIG - 22, (BIG - 21, BIG - 12, BIG - 9), (5, 10, 9)),
            (0, BIG, (5, 12, 23), (12, 6, 6)), (4, 4, (16,), (24,)), (4, 4, (15,), (24,)),
            (1, 2, (1, 8), (7, 17))):
        yield (here, there, tuple((draught, 0, many) for draught, many in zip(draughts, manies)))


def ship_by_ship(fleet, rnd):
    """A sea of a fleet's ships in some order, and a standing with just as many of each here."""
    here, there, sorts = fleet
    ships = []
    for draught, ours, theirs in sorts:
        ships += [(draught, True)] * ours + [(draught, False)] * theirs
    rnd.shuffle(ships)
    standing = tuple(ship for ship, (draught, lies_here) in enumerate(ships) if lies_here)
    return (here, there, tuple(draught for draught, lies_here in ships)), standing


class WrittenOutTests(unittest.TestCase):
    def told_of(self, sea, standing):
        return (least_here(sea, standing), most_here(sea, standing), movers_of(sea, standing))

    def test_one_ship(self):
        self.assertEqual(self.told_of((0, 0, (0,)), ()), (0, 1, [0]))
        self.assertEqual(self.told_of((0, 0, (0,)), (0,)), (0, 1, [0]))
        self.assertEqual(self.told_of((0, 0, (1,)), ()), (0, 0, []))
        self.assertEqual(self.told_of((0, 0, (1,)), (0,)), (1, 1, []))
        self.assertEqual(self.told_of((BIG, BIG, (BIG,)), (0,)), (0, 1, [0]))

    def test_one_deepens_for_the_next(self):
        sea = (0, 9, (0, 1, 2, 3))
        self.assertEqual(self.told_of(sea, ()), (0, 4, [0, 1, 2, 3]))
        self.assertEqual(self.told_of(sea, (3,)), (0, 4, [0, 1, 2, 3]))
        self.assertEqual(self.told_of((0, 9, (1, 1, 2, 3)), ()), (0, 0, []))
        self.assertEqual(self.told_of((0, 9, (1, 1, 2, 3)), (3,)), (1, 4, [0, 1, 2, 3]))

    def test_it_stops_on_the_way(self):
        sea = (0, 9, (0, 2, 2))
        self.assertEqual(self.told_of(sea, ()), (0, 1, [0]))
        self.assertEqual(self.told_of(sea, (1,)), (1, 3, [0, 1, 2]))

    def test_deep_ones_go_ahead_of_shallow_ones(self):
        sea = (9, 0, (0, 1, 2))
        self.assertEqual(self.told_of(sea, ()), (0, 3, [0, 1, 2]))
        self.assertEqual(self.told_of(sea, (0,)), (0, 3, [0, 1, 2]))
        self.assertTrue(comes_to(sea, (0,), (0, 1, 2)))

    def test_not_each_that_never_goes_is_too_deep(self):
        sea = (0, 9, (1, 1))
        self.assertEqual(self.told_of(sea, ()), (0, 0, []))
        self.assertEqual(self.told_of(sea, (0,)), (1, 2, [0, 1]))
        self.assertFalse(comes_to(sea, (), (0,)))
        self.assertTrue(comes_to(sea, (0,), (1,)))

    def test_24_ships(self):
        all_here = tuple(range(24))
        self.assertEqual(self.told_of((0, 0, (0,) * 24), ()), (0, 24, list(all_here)))
        self.assertEqual(self.told_of((0, 0, (11,) * 24), ()), (0, 0, []))
        self.assertEqual(self.told_of((0, 0, (11,) * 24), all_here[:12]), (11, 13, list(all_here)))
        self.assertEqual(self.told_of((0, 0, (12,) * 24), all_here[:12]), (12, 12, []))
        self.assertEqual(self.told_of((0, 23, tuple(range(24))), ()), (0, 24, list(all_here)))
        self.assertEqual(self.told_of((BIG, BIG, (BIG,) * 24), all_here), (0, 24, list(all_here)))
        self.assertEqual(self.told_of((BIG, 0, (0,) * 24), all_here), (0, 24, list(all_here)))


class AsGoneThroughTests(unittest.TestCase):
    def test_most_least_movers(self):
        for sea in going_seas():
            for standing, lot in lots_by_going(sea).items():
                self.assertEqual(most_here(sea, standing), lot.most, (sea, standing))
                self.assertEqual(least_here(sea, standing), lot.least, (sea, standing))
                self.assertEqual(movers_of(sea, standing), lot.movers, (sea, standing))

    def test_comes_to_of_all_pairs(self):
        seas = list(small_seas())[::3] + list(mixed_seas(11, 60, 5))
        for sea in seas:
            lots = lots_by_going(sea)
            for one in lots:
                for other in lots:
                    self.assertIs(comes_to(sea, one, other), other in lots[one].members)

    def test_comes_to_of_some_pairs_of_more_ships(self):
        rnd = random.Random(3)
        for sea in mixed_seas(13, 40, 8):
            lots = lots_by_going(sea)
            standings = standings_of(sea)
            for one in standings:
                others = [rnd.choice(standings), rnd.choice(sorted(lots[one].members))]
                for other in others:
                    self.assertIs(comes_to(sea, one, other), other in lots[one].members)

    def test_24_ships_most_least_movers(self):
        rnd = random.Random(5)
        for fleet in full_fleets():
            for counts, lot in list(fleet_lots(fleet).items())[::7]:
                sea, standing = ship_by_ship(fleet_with(fleet, counts), rnd)
                self.assertEqual(len(sea[2]), MOST_SHIPS)
                self.assertEqual(most_here(sea, standing), lot.most, (sea, standing))
                self.assertEqual(least_here(sea, standing), lot.least, (sea, standing))
                movers = [ship for ship, draught in enumerate(sea[2]) if draught in lot.movers]
                self.assertEqual(movers_of(sea, standing), movers, (sea, standing))

    def test_24_ships_come_to_what_a_row_leads_to(self):
        rnd = random.Random(9)
        for fleet in full_fleets():
            for counts in list(fleet_lots(fleet))[::19]:
                sea, standing = ship_by_ship(fleet_with(fleet, counts), rnd)
                reached = standing
                for _ in range(60):
                    able = may_cross(sea, reached)
                    if able:
                        reached = crossed_all(sea, reached, [rnd.choice(able)])
                self.assertIs(comes_to(sea, standing, reached), True)
                self.assertIs(comes_to(sea, reached, standing), True)

    def test_24_ships_with_other_numbers_or_other_fast_ones(self):
        rnd = random.Random(15)
        for fleet in full_fleets():
            lots = fleet_lots(fleet)
            for counts in list(lots)[::23]:
                sea, standing = ship_by_ship(fleet_with(fleet, counts), rnd)
                other = tuple(sorted(rnd.sample(range(24), rnd.randint(0, 24))))
                ours = tuple(sum(1 for ship in other if sea[2][ship] == draught)
                             for draught, _, _ in fleet[2])
                fast = [ship for ship in range(24) if sea[2][ship] not in lots[counts].movers]
                alike = all((ship in standing) == (ship in other) for ship in fast)
                wanted = alike and ours in lots[counts].members
                self.assertIs(comes_to(sea, standing, other), wanted, (sea, standing, other))


class TogetherTests(unittest.TestCase):
    def test_it_is_the_same_from_all_of_a_lot(self):
        for sea in mixed_seas(21, 120, 24):
            rnd = random.Random(len(sea[2]))
            standing = tuple(ship for ship in range(len(sea[2])) if rnd.random() < 0.5)
            told = (most_here(sea, standing), least_here(sea, standing), movers_of(sea, standing))
            self.assertTrue(told[1] <= len(standing) <= told[0])
            for _ in range(30):
                able = may_cross(sea, standing)
                self.assertLessEqual(set(able), set(told[2]))
                if able:
                    standing = crossed_all(sea, standing, [rnd.choice(able)])
                again = (most_here(sea, standing), least_here(sea, standing), movers_of(sea, standing))
                self.assertEqual(again, told, (sea, standing))

    def test_it_comes_to_itself(self):
        for sea in mixed_seas(23, 150, 24):
            for standing in ((), tuple(range(len(sea[2]))), tuple(range(0, len(sea[2]), 2))):
                self.assertIs(comes_to(sea, standing, standing), True)

    def test_turned_about(self):
        for here, there, draughts in mixed_seas(25, 150, 24):
            ships = range(len(draughts))
            sea, turned = (here, there, draughts), (there, here, draughts)
            for one in ((), tuple(ships)[1::2], tuple(ships)[:5]):
                left = tuple(ship for ship in ships if ship not in one)
                self.assertEqual(most_here(sea, one), len(draughts) - least_here(turned, left))
                self.assertEqual(movers_of(sea, one), movers_of(turned, left))

    def test_24_ships_of_24_draughts_in_a_short_time(self):
        # Going through the standings would take hours; this is done in a moment.
        draughts = tuple((7 * place) % 24 for place in range(24))
        for here in range(0, 24, 3):
            for there in range(0, 24, 3):
                sea = (here, there, draughts)
                for many in range(25):
                    standing = tuple(range(many))
                    movers = movers_of(sea, standing)
                    self.assertLessEqual(most_here(sea, standing) - len(standing), len(movers))
                    self.assertLessEqual(len(standing) - least_here(sea, standing), len(movers))

    def test_depths_are_not_gone_through(self):
        sea = (0, BIG, (BIG,) * 24)
        self.assertEqual(movers_of(sea, ()), [])
        self.assertEqual(most_here((BIG, 0, (BIG, 0)), (0,)), 2)
        self.assertEqual(afloat_by_count(sea, ()), list(range(24)))


class HandingInTests(unittest.TestCase):
    def test_all(self):
        for sea in ((1, 3, (0, 7, 2, 2)), (0, 9, (1, 1, 2)), (0, 0, (0,)), (0, 0, (1,))):
            for standing in standings_of(sea):
                check_handing(self, most_here, sea=sea, standing=standing)
                check_handing(self, least_here, sea=sea, standing=standing)
                check_handing(self, movers_of, sea=sea, standing=standing)
                for other in ((), (0,), tuple(range(len(sea[2])))):
                    check_handing(self, comes_to, sea=sea, one=standing, other=other)

    def test_kinds(self):
        sea = [1, 3, [0, 7, 2, 2]]
        self.assertIs(type(most_here(sea, [0])), int)
        self.assertIs(type(least_here(sea, [0])), int)
        self.assertIs(type(movers_of(sea, [0])), list)
        self.assertIs(type(movers_of((0, 0, (1,)), ())), list)
        self.assertTrue(all(type(ship) is int for ship in movers_of(sea, [0])))
        self.assertIs(type(comes_to(sea, [0], ())), bool)

    def test_somewhat_beyond_the_bounds(self):
        sea = (BIG + 3, BIG + 3, (BIG + 20,) * 60)
        self.assertEqual(most_here(sea, tuple(range(30))), 43)
        self.assertEqual(least_here(sea, tuple(range(30))), 17)


if __name__ == "__main__":
    unittest.main()
