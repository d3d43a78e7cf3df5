"""Point [8]: bars; promise (b)."""

import random
import unittest
from itertools import product

from going import gone_over, lots_by_going, may_by_count, standings_of
from handing import check_handing, with_lists
from sample_seas import BIG, small_seas
from shoalmates.bars import bar_of, shows_bar
from shoalmates.reach import comes_to
from things import any_things, is_plain_number, otherwise

FEW = ((0, 0, (0,)), (0, 0, (1,)), (0, 9, (1, 1)), (9, 0, (1, 1)), (0, 9, (0, 2, 2)),
       (9, 0, (0, 2, 2)), (1, 1, (2, 1, 3)), (1, 3, (0, 7, 2, 2)), (0, 0, (1, 1, 1, 1)),
       (0, 1, (0, 1, 2, 2)), (BIG, BIG - 2, (BIG, BIG - 1, BIG)))


def marks_by_words(sea):
    here, there, draughts = sea
    many = len(draughts)
    return [sorted((here + step, there + many - 1 - step))[0] for step in range(many)]


def goers_by_words(sea, step):
    mark = marks_by_words(sea)[step]
    return {ship for ship, draught in enumerate(sea[2]) if draught <= mark}


def is_rising_of_ships(sea, thing):
    if type(thing) is not tuple or not all(is_plain_number(ship) for ship in thing):
        return False
    return list(thing) == sorted(set(thing)) and set(thing) <= set(range(len(sea[2])))


def low_by_words(sea, one, other, step, full):
    marks, goers = marks_by_words(sea), goers_by_words(sea, step)
    if max(marks[:step + 1]) != marks[step] or len(full) != step or not goers <= set(full):
        return False
    under = [len(standing) <= step and set(standing) | goers == set(full) for standing in (one, other)]
    return under.count(True) == 1


def high_by_words(sea, one, other, step, left):
    marks, goers = marks_by_words(sea), goers_by_words(sea, step)
    if max(marks[step:]) != marks[step] or len(left) != step + 1 or goers & set(left):
        return False
    above = [len(standing) >= step + 1 and set(standing) - goers == set(left) for standing in (one, other)]
    return above.count(True) == 1


def bar_by_words(sea, one, other, thing):
    """Whether it's a bar between the two, looked at word by word."""
    if type(thing) is not tuple or len(thing) < 2 or type(thing[0]) is not str:
        return False
    if not is_plain_number(thing[1]) or thing[1] >= len(sea[2]):
        return False
    if thing[0] == "fast" and len(thing) == 2:
        too_deep = sea[2][thing[1]] > max(marks_by_words(sea))
        return too_deep and [thing[1] in one, thing[1] in other].count(True) == 1
    if thing[0] not in ("low", "high") or len(thing) != 3 or not is_rising_of_ships(sea, thing[2]):
        return False
    judge = low_by_words if thing[0] == "low" else high_by_words
    return judge(sea, one, other, thing[1], thing[2])


def made_like_bars(sea):
    """All things made like bars of a small sea."""
    standings = standings_of(sea)
    for place in range(len(sea[2])):
        yield ("fast", place)
        for ships in standings:
            yield ("low", place, ships)
            yield ("high", place, ships)


class WrittenOutTests(unittest.TestCase):
    def test_fast(self):
        sea = (0, 0, (1,))
        self.assertIs(shows_bar(sea, (), (0,), ("fast", 0)), True)
        self.assertIs(shows_bar(sea, (0,), (), ("fast", 0)), True)
        self.assertIs(shows_bar(sea, (0,), (0,), ("fast", 0)), False)
        self.assertIs(shows_bar((0, 0, (0,)), (), (0,), ("fast", 0)), False)
        self.assertIs(shows_bar((0, 9, (1, 1)), (), (0,), ("fast", 0)), False)

    def test_low(self):
        sea = (0, 9, (0, 2, 2))
        self.assertIs(shows_bar(sea, (), (1,), ("low", 1, (0,))), True)
        self.assertIs(shows_bar(sea, (0,), (1,), ("low", 1, (0,))), True)
        self.assertIs(shows_bar(sea, (), (0,), ("low", 1, (0,))), False)
        self.assertIs(shows_bar(sea, (), (1,), ("low", 0, ())), False)
        self.assertIs(shows_bar(sea, (), (1,), ("low", 2, (0, 1))), False)
        self.assertIs(shows_bar(sea, (), (1,), ("low", 1, (1,))), False)
        self.assertIs(shows_bar((0, 9, (1, 1)), (), (0,), ("low", 0, ())), True)

    def test_high(self):
        sea = (9, 0, (0, 2, 2))
        self.assertIs(shows_bar(sea, (0, 1, 2), (0, 2), ("high", 1, (1, 2))), True)
        self.assertIs(shows_bar(sea, (1, 2), (0, 2), ("high", 1, (1, 2))), True)
        self.assertIs(shows_bar(sea, (1, 2), (0, 1, 2), ("high", 1, (1, 2))), False)
        self.assertIs(shows_bar(sea, (1, 2), (0, 2), ("high", 2, (0, 1, 2))), False)
        self.assertIs(shows_bar((9, 0, (1, 1)), (0, 1), (0,), ("high", 1, (0, 1))), True)

    def test_both_within_is_no_bar(self):
        sea = (0, 9, (0, 2, 2))
        self.assertIs(shows_bar(sea, (), (0,), ("low", 1, (0,))), False)
        self.assertIs(shows_bar(sea, (1,), (2,), ("low", 1, (0,))), False)

    def test_a_step_behind_a_greater_mark_is_no_low_one(self):
        sea = (1, 1, (9, 9, 9))
        self.assertIs(shows_bar(sea, (0, 1), (0, 2), ("low", 2, (0, 1))), False)
        self.assertIs(shows_bar(sea, (0,), (1,), ("low", 1, (0,))), True)
        self.assertIs(shows_bar(sea, (0,), (1,), ("high", 0, (0,))), False)
        self.assertIs(shows_bar(sea, (0, 1), (0, 2), ("high", 1, (0, 1))), True)

    def test_two_steps_of_the_greatest_mark(self):
        sea = (0, 0, (1, 1, 1, 1, 9, 9))
        for one, other in (((4, 5), (4,)), ((0, 1, 2, 3), (0, 4)), ((0,), ())):
            for thing in made_like_bars(sea):
                self.assertIs(shows_bar(sea, one, other, thing), bar_by_words(sea, one, other, thing))


class AsGoneThroughTests(unittest.TestCase):
    def check_pair(self, sea, one, other, comes):
        told = bar_of(sea, one, other)
        if comes:
            self.assertIsNone(told, (sea, one, other))
            return
        self.assertIs(shows_bar(sea, one, other, told), True, (sea, one, other, told))
        self.assertTrue(bar_by_words(sea, one, other, told), (sea, one, other, told))
        self.assertIs(type(told), tuple)
        self.assertEqual(len(told), 2 if told[0] == "fast" else 3)
        self.assertEqual(bar_of(sea, one, other), told)

    def test_bar_of_all_pairs(self):
        for sea in list(small_seas())[::2] + list(FEW):
            lots = lots_by_going(sea)
            for one, other in product(lots, lots):
                self.check_pair(sea, one, other, other in lots[one].members)

    def test_bar_of_pairs_of_more_ships(self):
        rnd = random.Random(4)
        for _ in range(60):
            many = rnd.randint(4, 7)
            base = rnd.choice((0, 2, BIG - 9))
            here, there = base + rnd.randint(0, 3), base + rnd.randint(0, 3)
            low = min(here, there)
            sea = (here, there, tuple(max(0, low + rnd.randint(-1, many - 1)) for _ in range(many)))
            lots = lots_by_going(sea)
            standings = standings_of(sea)
            for one in standings:
                for other in (rnd.choice(standings), rnd.choice(sorted(lots[one].members))):
                    self.check_pair(sea, one, other, other in lots[one].members)

    def test_each_sort_is_told(self):
        told = {bar_of(sea, one, other)[0] for sea in FEW for one, other in product(standings_of(sea), repeat=2)
                if not comes_to(sea, one, other)}
        self.assertEqual(told, {"low", "high", "fast"})

    def test_24_ships(self):
        rnd = random.Random(6)
        for _ in range(150):
            base = rnd.choice((0, 5, BIG - 30))
            here, there = base + rnd.randint(0, 9), base + rnd.randint(0, 9)
            low = min(here, there)
            heights = [low + rnd.randint(-1, 20) for _ in range(rnd.randint(1, 8))]
            sea = (here, there, tuple(max(0, rnd.choice(heights)) for _ in range(24)))
            one, other = (tuple(sorted(rnd.sample(range(24), rnd.randint(0, 24)))) for _ in range(2))
            self.check_pair(sea, one, other, comes_to(sea, one, other))
            reached = one
            for _ in range(20):
                able = may_by_count(sea, reached)
                reached = gone_over(reached, rnd.choice(able)) if able else reached
            self.check_pair(sea, one, reached, True)


class ShowsBarTests(unittest.TestCase):
    def test_all_made_like_bars(self):
        for sea in FEW[:7] + tuple(small_seas())[::41]:
            standings = standings_of(sea)
            for thing in made_like_bars(sea):
                for one, other in product(standings, standings):
                    wanted = bar_by_words(sea, one, other, thing)
                    self.assertIs(shows_bar(sea, one, other, thing), wanted, (sea, one, other, thing))

    def test_never_between_two_that_come_to_one_another(self):
        for sea in FEW:
            lots = lots_by_going(sea)
            for one in lots:
                for other in sorted(lots[one].members):
                    for thing in made_like_bars(sea):
                        self.assertIs(shows_bar(sea, one, other, thing), False)

    def test_one_thing_otherwise(self):
        for sea in FEW:
            for one, other in list(product(standings_of(sea), repeat=2))[::5]:
                bars = [thing for thing in made_like_bars(sea) if bar_by_words(sea, one, other, thing)]
                for bar in bars[:3] + bars[-3:]:
                    self.assertIs(shows_bar(sea, one, other, bar), True)
                    for thing in otherwise(bar):
                        wanted = bar_by_words(sea, one, other, thing)
                        self.assertIs(shows_bar(sea, one, other, thing), wanted, (sea, one, other, thing))

    def test_wrong_kinds(self):
        sea = (0, 9, (1, 1))
        self.assertIs(shows_bar(sea, (), (0,), ("low", 0, ())), True)
        for thing in (("low", False, ()), ["low", 0, ()], ("low", 0, []), ("low", 0), ("low", 0, (), ()),
                      ("Low", 0, ()), ("high", 0, ()), ("fast", 0, ()), ("low", "0", ()), ("low", -1, ()),
                      ("low", 2, (0, 1)), ("low", 0, None), ("low", 0, ""), (0, "low", ()), None, "low"):
            self.assertIs(shows_bar(sea, (), (0,), thing), False, thing)
        alike = (0, 0, (5, 5))
        self.assertIs(shows_bar(alike, (), (1,), ("fast", 1)), True)
        for thing in (("fast", True), ["fast", 1], ("fast",), ("fast", 1, ()), ("fast", (1,)), ("fast", 2),
                      ("fast", -1), ("fast", "1"), ("fast", None), ("slow", 1), (1, "fast"), ("fast", 0)):
            self.assertIs(shows_bar(alike, (), (1,), thing), False, thing)

    def test_things_of_any_make(self):
        sea, one, other = (0, 9, (1, 1)), (), (0,)
        for thing in any_things(3, 3000):
            for made in (thing, ("low", 0, thing), ("low", thing, ()), (thing, 0, ()), ("fast", thing)):
                self.assertIs(shows_bar(sea, one, other, made), bar_by_words(sea, one, other, made), made)


class HandingInTests(unittest.TestCase):
    def test_all(self):
        for sea in FEW[:8]:
            standings = standings_of(sea)
            for one, other in list(product(standings, standings))[::7]:
                check_handing(self, bar_of, sea=sea, one=one, other=other)
                bar = bar_of(sea, one, other)
                for thing in (bar, with_lists(bar), ("low", 0, ()), ("fast", 0)):
                    check_handing(self, shows_bar, ("thing",), sea=sea, one=one, other=other, thing=thing)

    def test_lists_are_no_bars(self):
        for sea in FEW:
            for one, other in product(standings_of(sea), repeat=2):
                bar = bar_of(sea, one, other)
                if bar is not None:
                    self.assertIs(shows_bar(with_lists(sea), list(one), list(other), bar), True)
                    self.assertIs(shows_bar(sea, one, other, list(bar)), False)
                    if bar[0] != "fast":
                        self.assertIs(shows_bar(sea, one, other, bar[:2] + (list(bar[2]),)), False)


if __name__ == "__main__":
    unittest.main()
