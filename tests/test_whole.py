"""Point [1], over the whole program: what one function tells against what the others tell."""

import random
import unittest
from itertools import product

from going import standings_of
from sample_seas import BIG, helping_seas, small_seas
from shoalmates.bars import bar_of, shows_bar
from shoalmates.counting import families_many, family_size
from shoalmates.crossing import afloat_ones, crossed, crossed_all, may_cross
from shoalmates.desk import answers
from shoalmates.dredging import deepened, freed_by, least_dredged
from shoalmates.errors import Apart, MayNot
from shoalmates.far import how_far, nearer_ones, row_to, shows_row
from shoalmates.fleets import fleet_comes, fleet_least, fleet_most, fleet_movers, is_fleet, sea_of
from shoalmates.harbour import Harbour
from shoalmates.lacks import lack_of, shows_lack
from shoalmates.otherwise import renumbered, renumbered_standing, sunk
from shoalmates.prices import cheapest, paid
from shoalmates.reach import comes_to, least_here, most_here, movers_of
from shoalmates.seas import is_sea, is_standing, other_side, turned_sea
from shoalmates.steps import goers_at, mark_at, top_step, window_of
from shoalmates.texts import sea_in, sea_text, standing_in, standing_text

SEAS = (*list(small_seas())[::37], *helping_seas(81, 14, 4, 3), (0, 9, (1, 1)), (9, 0, (0, 2, 2)),
        (0, 0, (0, 1, 1)), (0, 1, (0, 0, 2, 2)), (BIG, BIG - 2, (BIG, BIG - 1, BIG + 1)))


def all_pairs(sea):
    return product(standings_of(sea), repeat=2)


def told_of_pair(sea, one, other):
    """All numbers that are told of two standings, None where they're apart."""
    if not comes_to(sea, one, other):
        return None
    prices = [1 + draught % 5 for draught in sea[2]]
    return (how_far(sea, one, other), lack_of(sea, one, other)[0], len(nearer_ones(sea, one, other)),
            cheapest(sea, one, other, prices)[0])


def told_of_one(sea, standing):
    return (len(may_cross(sea, standing)), len(afloat_ones(sea, standing)), len(movers_of(sea, standing)),
            family_size(sea, standing))


def fleet_by_ships(sea, standing):
    here, there, draughts = sea
    sorts = []
    for draught in sorted(set(draughts)):
        ours = len([ship for ship in standing if draughts[ship] == draught])
        sorts.append((draught, ours, draughts.count(draught) - ours))
    return (here, there, tuple(sorts))


class PromisesTests(unittest.TestCase):
    def test_a_who_may_go_hangs_on_how_many_others_lie_here(self):
        for sea in SEAS:
            by_step = {}
            for standing in standings_of(sea):
                for ship in range(len(sea[2])):
                    step = len(standing) - (ship in standing)
                    may = ship in may_cross(sea, standing)
                    self.assertIs(by_step.setdefault((ship, step), may), may)
                    self.assertEqual(may, ship in goers_at(sea, step))
                    self.assertEqual(may, sea[2][ship] <= mark_at(sea, step))
                    window = window_of(sea, ship)
                    self.assertEqual(may, window is not None and window[0] <= step <= window[1])
            for ship, mate in product(range(len(sea[2])), repeat=2):
                if sea[2][ship] >= sea[2][mate]:
                    steps = [step for step in range(len(sea[2])) if by_step.get((ship, step))]
                    self.assertTrue(all(by_step[(mate, step)] for step in steps))
                    self.assertTrue(not steps or top_step(sea) in steps)

    def test_b_a_row_or_a_bar_never_both(self):
        for sea in SEAS:
            for one, other in all_pairs(sea):
                bar = bar_of(sea, one, other)
                self.assertEqual(bar is None, comes_to(sea, one, other))
                if bar is None:
                    row = row_to(sea, one, other)
                    self.assertEqual(crossed_all(sea, one, row), other)
                    self.assertIs(shows_row(sea, one, other, row), True)
                    self.assertIs(shows_bar(sea, one, other, bar), False)
                else:
                    self.assertIs(shows_bar(sea, one, other, bar), True)
                    self.assertIs(shows_row(sea, one, other, []), False)
                    for function in (how_far, nearer_ones, row_to, lack_of):
                        self.assertRaises(Apart, function, sea, one, other)
                    self.assertRaises(Apart, cheapest, sea, one, other, [1] * len(sea[2]))

    def test_b_a_bar_stays_whoever_goes_over(self):
        for sea in SEAS:
            for one, other in all_pairs(sea):
                bar = bar_of(sea, one, other)
                for ship in may_cross(sea, one) if bar is not None else []:
                    self.assertIs(shows_bar(sea, crossed(sea, one, ship), other, bar), True)

    def test_c_most_least_and_movers(self):
        for sea in SEAS:
            for one in standings_of(sea):
                lot = [other for other in standings_of(sea) if comes_to(sea, one, other)]
                self.assertEqual(most_here(sea, one), max(len(other) for other in lot))
                self.assertEqual(least_here(sea, one), min(len(other) for other in lot))
                movers = {ship for other in lot for ship in may_cross(sea, other)}
                self.assertEqual(movers_of(sea, one), sorted(movers))
                self.assertEqual(movers, {ship for other in lot for ship in set(one) ^ set(other)})

    def test_d_lacks_against_rows(self):
        for sea in SEAS:
            for one, other in all_pairs(sea):
                if comes_to(sea, one, other):
                    lack, paper = lack_of(sea, one, other)
                    row = row_to(sea, one, other)
                    self.assertEqual(len(row), len(set(one) ^ set(other)) + 2 * lack)
                    self.assertIs(shows_lack(sea, one, other, lack, paper), True)
                    self.assertIs(shows_lack(sea, one, other, lack + 1, paper), False)
                    self.assertEqual(row[0] in nearer_ones(sea, one, other) if row else one == other, True)

    def test_e_prices_against_rows(self):
        rnd = random.Random(3)
        for sea in SEAS:
            alike, unlike = [3] * len(sea[2]), [rnd.randint(0, 9) for _ in sea[2]]
            for one, other in all_pairs(sea):
                if comes_to(sea, one, other):
                    row = row_to(sea, one, other)
                    price, cheap_row = cheapest(sea, one, other, unlike)
                    self.assertEqual(cheapest(sea, one, other, alike)[0], 3 * len(row))
                    self.assertEqual(cheapest(sea, one, other, unlike)[0], cheapest(sea, other, one, unlike)[0])
                    self.assertEqual(paid(unlike, cheap_row), price)
                    self.assertLessEqual(price, paid(unlike, row))
                    self.assertGreaterEqual(price, sum(unlike[ship] for ship in set(one) ^ set(other)))
                    self.assertEqual(crossed_all(sea, one, cheap_row), other)

    def test_f_fleets_against_ships(self):
        for sea in SEAS:
            for one in standings_of(sea):
                fleet = fleet_by_ships(sea, one)
                self.assertIs(is_fleet(fleet), True)
                told_sea, told_standing = sea_of(fleet)
                self.assertEqual((is_sea(told_sea), is_standing(told_sea, told_standing)), (True, True))
                for by_fleet, by_ships in ((fleet_most, most_here), (fleet_least, least_here)):
                    self.assertEqual(by_fleet(fleet), by_ships(sea, one))
                    self.assertEqual(by_fleet(fleet), by_ships(told_sea, told_standing))
                self.assertEqual(fleet_movers(fleet), sorted({sea[2][ship] for ship in movers_of(sea, one)}))
            for one, other in all_pairs(sea):
                if comes_to(sea, one, other):
                    self.assertIs(fleet_comes(fleet_by_ships(sea, one), fleet_by_ships(sea, other)), True)

    def test_g_dredged_seas_against_bars(self):
        for sea in SEAS:
            for side in ("here", "there"):
                for one, other in list(all_pairs(sea))[::3]:
                    least = least_dredged(sea, one, other, side)
                    if least is None:
                        self.assertIsNotNone(bar_of(deepened(sea, side, 2 * BIG), one, other))
                        continue
                    self.assertIsNone(bar_of(deepened(sea, side, least), one, other))
                    if least:
                        bar = bar_of(deepened(sea, side, least - 1), one, other)
                        self.assertIs(shows_bar(deepened(sea, side, least - 1), one, other, bar), True)
                for one in standings_of(sea):
                    for ship, least in enumerate(freed_by(sea, one, side)):
                        if least is not None:
                            self.assertIn(ship, movers_of(deepened(sea, side, least), one))
                        if least != 0:
                            short = 2 * BIG if least is None else least - 1
                            self.assertNotIn(ship, movers_of(deepened(sea, side, short), one))

    def test_h_counts_against_standings(self):
        for sea in SEAS:
            lots = set()
            for one in standings_of(sea):
                lot = tuple(other for other in standings_of(sea) if comes_to(sea, one, other))
                self.assertEqual(family_size(sea, one), len(lot))
                lots.add(lot)
            self.assertEqual(families_many(sea), len(lots))


class ToldOtherwiseTests(unittest.TestCase):
    def test_turned_about(self):
        for sea in SEAS:
            around = turned_sea(sea)
            self.assertEqual(families_many(around), families_many(sea))
            for one, other in all_pairs(sea):
                one_there, other_there = other_side(sea, one), other_side(sea, other)
                self.assertEqual(told_of_pair(around, one_there, other_there), told_of_pair(sea, one, other))
                self.assertEqual(told_of_one(around, one_there), told_of_one(sea, one))
                for side, turned_side in (("here", "there"), ("there", "here")):
                    self.assertEqual(least_dredged(around, one_there, other_there, turned_side),
                                     least_dredged(sea, one, other, side))

    def test_numbered_anew(self):
        rnd = random.Random(5)
        for sea in SEAS:
            order = rnd.sample(range(len(sea[2])), len(sea[2]))
            anew = renumbered(sea, order)
            self.assertEqual(families_many(anew), families_many(sea))
            for one, other in all_pairs(sea):
                new_one, new_other = renumbered_standing(order, one), renumbered_standing(order, other)
                self.assertEqual(told_of_pair(anew, new_one, new_other), told_of_pair(sea, one, other))
                self.assertEqual(told_of_one(anew, new_one), told_of_one(sea, one))
                freed, old = freed_by(anew, new_one, "here"), freed_by(sea, one, "here")
                self.assertEqual(freed, [old[ship] for ship in order])

    def test_with_ships_sunk_that_lie_fast(self):
        for sea in (sea for sea in SEAS if len(sea[2]) > 1):
            for one, other in all_pairs(sea):
                fast = [ship for ship in range(len(sea[2])) if ship not in movers_of(sea, one)]
                if not comes_to(sea, one, other) or not fast:
                    continue
                ship = fast[0]
                left, new_one = sunk(sea, one, ship)
                same, new_other = sunk(sea, other, ship)
                self.assertEqual(left, same)
                self.assertEqual(told_of_pair(left, new_one, new_other), told_of_pair(sea, one, other))
                self.assertEqual(family_size(left, new_one), family_size(sea, one))
                self.assertEqual(most_here(left, new_one), most_here(sea, one) - (ship in one))

    def test_a_harbour_tells_the_same(self):
        for sea in SEAS:
            for one in standings_of(sea):
                harbour = Harbour(sea[0], sea[1])
                for ship, draught in enumerate(sea[2]):
                    harbour.moor(draught, "here" if ship in one else "there")
                self.assertEqual((harbour.sea(), harbour.standing()), (sea, one))
                self.assertEqual(harbour.may_go(), may_cross(sea, one))
                self.assertEqual(harbour.movers(), movers_of(sea, one))
                for ship in range(len(sea[2])):
                    twin = harbour.twin()
                    if ship in harbour.may_go():
                        twin.cross(ship)
                        self.assertEqual(twin.standing(), crossed(sea, one, ship))
                    else:
                        self.assertRaises(MayNot, twin.cross, ship)
                        self.assertRaises(MayNot, crossed, sea, one, ship)
                for other in standings_of(sea):
                    if comes_to(sea, one, other):
                        twin = harbour.twin()
                        twin.sail(row_to(sea, one, other))
                        self.assertEqual((twin.standing(), twin.crossings()), (other, how_far(sea, one, other)))
                        twin.undo()
                        self.assertEqual(twin, harbour)

    def test_a_desk_tells_the_same(self):
        for sea in SEAS:
            for one, other in list(all_pairs(sea))[::5]:
                rows = [f"basins {sea[0]} {sea[1]}"]
                rows += [f"moor {draught} {'here' if ship in one else 'there'}" for ship, draught in enumerate(sea[2])]
                far = " ".join(["far", *(str(ship) for ship in other)])
                told = answers("\n".join(rows + ["sea", "standing", "most", "least", far]))[len(sea[2]):]
                bar = bar_of(sea, one, other)
                wanted_far = str(how_far(sea, one, other)) if bar is None else f"bar {bar[0]}"
                self.assertEqual(told, [sea_text(sea), standing_text(one), str(most_here(sea, one)),
                                        str(least_here(sea, one)), wanted_far])

    def test_texts_tell_the_same(self):
        for sea in SEAS:
            self.assertEqual(sea_in(sea_text(sea)), sea)
            for one in standings_of(sea):
                self.assertEqual(standing_in(sea, standing_text(one)), one)


if __name__ == "__main__":
    unittest.main()
