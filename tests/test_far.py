"""Point [9]: the fewest crossings; promises (b) and (d)."""

import random
import unittest
from itertools import product

from going import far_by_going, gone_over, lots_by_going, may_by_count, price_by_counts, standings_of
from handing import check_handing, with_lists
from sample_seas import BIG, MOST_SHIPS, full_pairs, helping_seas, small_seas
from shoalmates.errors import Apart
from shoalmates.far import how_far, nearer_ones, row_to, shows_row
from things import any_things, is_plain_number, otherwise

FEW = ((0, 0, (0,)), (0, 0, (1,)), (0, 9, (1, 1)), (0, 9, (0, 2, 2)), (0, 0, (0, 0, 1)),
       (0, 0, (0, 1, 1)), (0, 2, (0, 0, 2)), (2, 0, (0, 0, 2)), (0, 1, (0, 0, 2, 2)),
       (BIG, BIG - 2, (BIG, BIG - 1, BIG)))


def turned(sea, standing):
    """The sea and the standing with here and there exchanged."""
    here, there, draughts = sea
    return (there, here, draughts), tuple(ship for ship in range(len(draughts)) if ship not in standing)


def gone_through(sea, standing, row):
    """The standing behind the row, or None where someone may not go."""
    for ship in row:
        if ship not in may_by_count(sea, standing):
            return None
        standing = gone_over(standing, ship)
    return standing


def row_by_words(sea, one, other, thing, far):
    """Whether it's such a row, looked at word by word; far by going, None where apart."""
    if type(thing) is not list or not all(is_plain_number(ship) and ship < len(sea[2]) for ship in thing):
        return False
    return far is not None and len(thing) == far and gone_through(sea, one, thing) == other


class WrittenOutTests(unittest.TestCase):
    def check(self, sea, one, other, far, nearer, rows):
        for _ in range(2):
            self.assertEqual(how_far(sea, one, other), far)
            self.assertEqual(nearer_ones(sea, one, other), nearer)
            self.assertIn(row_to(sea, one, other), rows)
        for row in rows:
            self.assertIs(shows_row(sea, one, other, row), True)

    def test_one_ship(self):
        self.check((0, 0, (0,)), (), (0,), 1, [0], [[0]])
        self.check((0, 0, (0,)), (0,), (), 1, [0], [[0]])

    def test_one_and_the_same(self):
        for sea in FEW:
            for standing in standings_of(sea):
                self.check(sea, standing, standing, 0, [], [[]])

    def test_a_helper_below(self):
        self.check((0, 2, (0, 0, 2)), (2,), (), 5, [0, 1], [[0, 1, 2, 0, 1], [0, 1, 2, 1, 0],
                                                             [1, 0, 2, 0, 1], [1, 0, 2, 1, 0]])
        self.check((0, 0, (0, 0, 1)), (2,), (), 3, [0, 1], [[0, 2, 0], [1, 2, 1]])

    def test_a_helper_above(self):
        self.check((0, 0, (0, 0, 1)), (0, 1), (0, 1, 2), 3, [0, 1], [[0, 2, 0], [1, 2, 1]])
        self.check((2, 0, (0, 0, 2)), (0, 1), (0, 1, 2), 5, [0, 1], [[0, 1, 2, 0, 1], [0, 1, 2, 1, 0],
                                                                    [1, 0, 2, 0, 1], [1, 0, 2, 1, 0]])

    def test_a_ship_goes_thrice(self):
        self.check((0, 0, (0, 1, 1)), (0, 1, 2), (), 5, [0], [[0, 1, 0, 2, 0], [0, 2, 0, 1, 0]])
        self.check((0, 0, (0, 1, 1)), (), (0, 1, 2), 5, [0], [[0, 1, 0, 2, 0], [0, 2, 0, 1, 0]])

    def test_a_helper_that_lies_here_in_both(self):
        sea, one, other = (0, 1, (0, 0, 2, 2)), (1,), (0, 1, 2, 3)
        self.check(sea, one, other, 5, [0], [[0, 2, 1, 3, 1], [0, 3, 1, 2, 1], [0, 2, 0, 3, 0], [0, 3, 0, 2, 0]])

    def test_apart(self):
        for sea, one, other in (((0, 0, (1,)), (), (0,)), ((0, 9, (1, 1)), (), (0,)), ((0, 9, (1, 1)), (0,), ()),
                                ((0, 9, (0, 2, 2)), (), (1,)), ((BIG, 0, (1, 1)), (0, 1), (0,))):
            for function in (how_far, nearer_ones, row_to):
                with self.assertRaises(Apart) as caught:
                    function(sea, one, other)
                self.assertIs(type(caught.exception), Apart)
                self.assertEqual(vars(caught.exception), {})
            for thing in ([], [0], [1], [0, 1], [0, 0], None, ()):
                self.assertIs(shows_row(sea, one, other, thing), False)

    def test_none_goes_nearer_but_others_may_go(self):
        sea = (5, 5, (0, 0, 0))
        self.check(sea, (), (1,), 1, [1], [[1]])
        self.check(sea, (0, 2), (1, 2), 2, [0, 1], [[0, 1], [1, 0]])


class AsGoneThroughTests(unittest.TestCase):
    def check_pair(self, sea, one, other, far, far_back):
        self.assertEqual(how_far(sea, one, other), far, (sea, one, other))
        nearer = [ship for ship in may_by_count(sea, one) if far_back[gone_over(one, ship)] < far]
        self.assertEqual(nearer_ones(sea, one, other), nearer, (sea, one, other))
        row = row_to(sea, one, other)
        self.assertEqual(len(row), far, (sea, one, other, row))
        self.assertEqual(gone_through(sea, one, row), other, (sea, one, other, row))
        self.assertIs(shows_row(sea, one, other, row), True)

    def check_apart(self, sea, one, other):
        for function in (how_far, nearer_ones, row_to):
            self.assertRaises(Apart, function, sea, one, other)
        self.assertIs(shows_row(sea, one, other, []), False)

    def check_sea(self, sea):
        fars = {one: far_by_going(sea, one) for one in standings_of(sea)}
        for one, other in product(fars, fars):
            if other in fars[one]:
                self.check_pair(sea, one, other, fars[one][other], fars[other])
                self.assertEqual(how_far(sea, other, one), fars[one][other])
            else:
                self.check_apart(sea, one, other)

    def test_all_pairs_of_small_seas(self):
        for sea in list(small_seas())[::4] + list(FEW):
            self.check_sea(sea)

    def test_all_pairs_of_seas_with_helpers(self):
        for sea in helping_seas(31, 30, 5, 3):
            self.check_sea(sea)

    def test_pairs_of_more_ships(self):
        rnd = random.Random(5)
        for sea in helping_seas(33, 30, 8, 6):
            for one in rnd.sample(standings_of(sea), 4):
                far = far_by_going(sea, one)
                for other in rnd.sample(sorted(far), min(len(far), 5)):
                    self.check_pair(sea, one, other, far[other], far_by_going(sea, other))

    def test_it_is_seen_that_helpers_are_needed(self):
        told = set()
        for sea in FEW:
            for one, other in product(standings_of(sea), repeat=2):
                if other in far_by_going(sea, one):
                    row = row_to(sea, one, other)
                    told.add(max((row.count(ship) for ship in row), default=0))
        self.assertEqual(told, {0, 1, 2, 3})

    def test_never_both_a_row_and_apart(self):
        for sea in FEW:
            lots = lots_by_going(sea)
            for one, other in product(lots, lots):
                try:
                    self.assertIs(shows_row(sea, one, other, row_to(sea, one, other)), True)
                    comes = True
                except Apart:
                    comes = False
                self.assertEqual(comes, other in lots[one].members)


class FullSeaTests(unittest.TestCase):
    def check_full(self, sea, one, other, far):
        self.assertEqual(len(sea[2]), MOST_SHIPS)
        self.assertEqual(how_far(sea, one, other), far, (sea, one, other))
        row = row_to(sea, one, other)
        self.assertEqual(len(row), far)
        self.assertIs(shows_row(sea, one, other, row), True)
        reached = one
        for left, ship in zip(range(far, 0, -1), row):
            self.assertEqual(how_far(sea, reached, other), left)
            if left % 5 == 0:
                nearer = nearer_ones(sea, reached, other)
                self.assertIn(ship, nearer)
                self.assertLessEqual(set(nearer), set(may_by_count(sea, reached)))
                self.assertEqual(nearer, sorted(nearer))
            reached = gone_over(reached, ship)
        self.assertEqual(reached, other)

    def test_pairs_by_hand(self):
        for sea, one, other in full_pairs():
            far = price_by_counts(sea, one, other, [1] * MOST_SHIPS)
            self.check_full(sea, one, other, far)
            self.check_full(sea, other, one, far)
            around, one_there = turned(sea, one)
            self.check_full(around, one_there, turned(sea, other)[1], far)

    def test_nearer_ones_of_full_seas(self):
        for sea, one, other in full_pairs():
            far = how_far(sea, one, other)
            nearer = [ship for ship in may_by_count(sea, one)
                      if price_by_counts(sea, gone_over(one, ship), other, [1] * MOST_SHIPS) < far]
            self.assertEqual(nearer_ones(sea, one, other), nearer, (sea, one, other))

    def test_written_out(self):
        ships = tuple(range(24))
        self.assertEqual(how_far((0, 0, (0,) * 24), (), ships), 24)
        self.assertEqual(how_far((0, BIG, (0,) * 23 + (23,)), (), (23,)), 47)
        self.assertEqual(how_far((0, BIG, tuple(ships)), (), (23,)), 47)
        self.assertEqual(how_far((0, BIG, tuple(ships)), (), ships), 24)
        self.assertEqual(how_far((0, 0, (0,) * 12 + (11,) * 12), ships[:12], ships[12:]), 24)
        self.assertEqual(row_to((0, BIG, tuple(ships)), (), ships), list(ships))

    def test_many_unlike_draughts(self):
        rnd = random.Random(17)
        for sea in helping_seas(35, 25, 24, 20):
            one = tuple(sorted(rnd.sample(range(len(sea[2])), rnd.randint(0, len(sea[2])))))
            other = one
            for _ in range(80):
                able = may_by_count(sea, other)
                other = gone_over(other, rnd.choice(able)) if able else other
            row = row_to(sea, one, other)
            self.assertLessEqual(len(row), 80)
            self.assertEqual(gone_through(sea, one, row), other)
            self.assertEqual(len(row), how_far(sea, one, other))
            self.assertEqual(how_far(sea, other, one), len(row))
            self.assertIs(shows_row(sea, one, other, row), True)


class ShowsRowTests(unittest.TestCase):
    def test_all_short_rows(self):
        for sea in FEW:
            many = len(sea[2])
            rows = [list(row) for length in range(6 if many < 4 else 4) for row in product(range(many), repeat=length)]
            for one in standings_of(sea):
                far = far_by_going(sea, one)
                ends = {}
                for row in rows:
                    ends.setdefault(gone_through(sea, one, row), []).append(row)
                for other in standings_of(sea):
                    for row in ends.get(other, []) + ends.get(None, [])[::5] + rows[::9]:
                        wanted = row_by_words(sea, one, other, row, far.get(other))
                        self.assertIs(shows_row(sea, one, other, row), wanted, (sea, one, other, row))

    def test_longer_ones_and_others(self):
        sea = (5, 5, (0, 0))
        self.assertIs(shows_row(sea, (), (0,), [0]), True)
        for row in ([], [1], [0, 1], [0, 1, 1], [0, 0, 0], [1, 0, 1], [0] * 200, [0] * 201):
            self.assertIs(shows_row(sea, (), (0,), row), False, row)
        self.assertIs(shows_row(sea, (), (), []), True)
        self.assertIs(shows_row(sea, (), (), [0, 0]), False)
        self.assertIs(shows_row(sea, (), (0, 1), [0, 1]), True)
        self.assertIs(shows_row(sea, (), (0, 1), [1, 0]), True)

    def test_someone_may_not_go(self):
        sea = (0, 2, (0, 0, 2))
        self.assertIs(shows_row(sea, (2,), (), [0, 1, 2, 1, 0]), True)
        for row in ([2], [0, 2, 0], [0, 2, 1, 1, 0], [2, 0, 1, 1, 0], [0, 1, 2, 1], [0, 1, 2, 1, 0, 0, 0]):
            self.assertIs(shows_row(sea, (2,), (), row), False, row)

    def test_wrong_kinds(self):
        sea = (5, 5, (0, 0))
        for thing in ((0,), (), None, True, False, "0", "", 0, 1, [True], [False], ["0"], [None], [[0]], [(0,)],
                      [-2], [-1], [2], [BIG], [0, None], [0, "1"], ([0],), [[0], []]):
            self.assertIs(shows_row(sea, (), (0,), thing), False, thing)
        for thing in ((), None, False, 0, "", [[]], [()], [None]):
            self.assertIs(shows_row(sea, (0,), (0,), thing), False, thing)

    def test_one_thing_otherwise(self):
        for sea in FEW[4:]:
            for one in standings_of(sea):
                for other, far in far_by_going(sea, one).items():
                    row = row_to(sea, one, other)
                    for thing in otherwise(tuple(row)):
                        made = list(thing) if isinstance(thing, tuple) else thing
                        wanted = row_by_words(sea, one, other, made, far)
                        self.assertIs(shows_row(sea, one, other, made), wanted, (sea, one, other, made))
                        self.assertIs(shows_row(sea, one, other, tuple(row)), False)

    def test_things_of_any_make(self):
        sea = (5, 5, (0, 0, 0, 0))
        for thing in any_things(5, 3000):
            for made in (thing, [thing], [thing, 1], [0, thing]):
                wanted = row_by_words(sea, (), (0, 1), made, 2)
                self.assertIs(shows_row(sea, (), (0, 1), made), wanted, made)


class HandingInTests(unittest.TestCase):
    def test_all(self):
        for sea in FEW:
            for one, other in list(product(standings_of(sea), repeat=2))[::3]:
                for function in (how_far, nearer_ones, row_to):
                    check_handing(self, function, sea=sea, one=one, other=other)
                for thing in ([], [0], (0,), [0, 2, 0], None):
                    check_handing(self, shows_row, ("thing",), sea=sea, one=one, other=other, thing=thing)

    def test_what_was_told_is_handed_in(self):
        for sea, one, other in full_pairs():
            row = row_to(sea, one, other)
            self.assertIs(shows_row(with_lists(sea), list(one), list(other), row), True)
            self.assertIs(shows_row(sea, one, other, tuple(row)), False)
            kept = list(row)
            row.append(0)
            self.assertEqual(row_to(sea, one, other), kept)

    def test_kinds(self):
        sea = [0, 2, [0, 0, 2]]
        self.assertIs(type(how_far(sea, [2], [])), int)
        self.assertIs(type(nearer_ones(sea, [2], [])), list)
        self.assertIs(type(row_to(sea, [2], [])), list)
        self.assertIs(type(row_to(sea, [2], (2,))), list)
        self.assertIs(type(nearer_ones(sea, [2], (2,))), list)
        self.assertTrue(all(type(ship) is int for ship in row_to(sea, [2], [])))

    def test_somewhat_beyond_the_bounds(self):
        sea = (0, BIG * 10, tuple(range(30)))
        self.assertEqual(how_far(sea, (), (29,)), 59)
        self.assertEqual(len(row_to(sea, (), (29,))), 59)


if __name__ == "__main__":
    unittest.main()
