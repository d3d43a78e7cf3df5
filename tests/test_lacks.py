"""Point [10]: lacks and papers; promise (d)."""

import random
import unittest
from itertools import product

from going import far_by_going, gone_over, lots_by_going, may_by_count, standings_of
from handing import check_handing
from sample_seas import BIG, MOST_SHIPS, full_pairs, helping_seas, small_seas
from shoalmates.errors import Apart
from shoalmates.far import how_far
from shoalmates.lacks import lack_of, shows_lack
from things import any_things, is_plain_number, otherwise, replaced

WORDS = ("none", "below", "above", "both", "None", "", 0, None)
FEW = ((0, 0, (0,)), (0, 9, (1, 1)), (0, 9, (0, 2, 2)), (0, 0, (0, 0, 1)), (0, 0, (0, 1, 1)),
       (0, 2, (0, 0, 2)), (2, 0, (0, 0, 2)), (0, 1, (0, 0, 2, 2)), (0, 0, (0, 0, 2, 2, 2)),
       (BIG, BIG - 2, (BIG, BIG - 1, BIG)))


def goers_by_words(sea, step):
    here, there, draughts = sea
    mark = sorted((here + step, there + len(draughts) - 1 - step))[0]
    return {ship for ship, draught in enumerate(draughts) if draught <= mark}


def window_by_words(sea, one, other):
    """The first and the last step of the greatest draught of those that lie otherwise."""
    deepest = max(set(one) ^ set(other), key=lambda ship: sea[2][ship])
    steps = [step for step in range(len(sea[2])) if deepest in goers_by_words(sea, step)]
    return steps[0], steps[-1]


def below_by_words(sea, one, other, step):
    comers, leavers, goers = set(other) - set(one), set(one) - set(other), goers_by_words(sea, step)
    return (step + 1 - len(one) - len(comers & goers), step + 1 - len(other) - len(leavers & goers))


def above_by_words(sea, one, other, step):
    comers, leavers, goers = set(other) - set(one), set(one) - set(other), goers_by_words(sea, step)
    return (len(one) - step - len(leavers & goers), len(other) - step - len(comers & goers))


def both_by_words(sea, one, other, low, high):
    comers, leavers = set(other) - set(one), set(one) - set(other)
    goers = goers_by_words(sea, low) | goers_by_words(sea, high)
    return ((low + 1 - len(one)) + (len(other) - high) - len(comers & goers),
            (low + 1 - len(other)) + (len(one) - high) - len(leavers & goers))


def paper_by_words(sea, one, other, many, thing):
    """Whether it's a paper that no less is lacking than many, looked at word by word."""
    if type(thing) is not tuple or not thing or type(thing[0]) is not str:
        return False
    if thing == ("none",):
        return many == 0
    steps = thing[1:]
    if one == other or not all(is_plain_number(step) and step < len(sea[2]) for step in steps):
        return False
    first, last = window_by_words(sea, one, other)
    if thing[0] == "below" and len(steps) == 1 and steps[0] < first:
        return any(many <= shown for shown in below_by_words(sea, one, other, *steps))
    if thing[0] == "above" and len(steps) == 1 and steps[0] > last:
        return any(many <= shown for shown in above_by_words(sea, one, other, *steps))
    if thing[0] == "both" and len(steps) == 2 and steps[0] < first and steps[1] > last:
        return any(many <= shown for shown in both_by_words(sea, one, other, *steps))
    return False


def made_like_papers(sea):
    """All things made like papers of a small sea, of steps that it doesn't have, too."""
    steps = range(-1, len(sea[2]) + 1)
    yield ("none",)
    for step in steps:
        yield from (("below", step), ("above", step), ("none", step), ("both", step))
        for high in steps:
            yield from (("both", step, high), ("below", step, high), ("above", step, high))


def pairs_that_come(sea):
    lots = lots_by_going(sea)
    return [(one, other) for one in lots for other in sorted(lots[one].members)]


class WrittenOutTests(unittest.TestCase):
    def check(self, sea, one, other, many, papers):
        lack, paper = lack_of(sea, one, other)
        self.assertEqual(lack, many)
        self.assertIn(paper, papers)
        for paper in papers:
            for less in range(many + 1):
                self.assertIs(shows_lack(sea, one, other, less, paper), less == 0 or paper != ("none",))
            self.assertIs(shows_lack(sea, one, other, many + 1, paper), False)

    def test_nothing_is_lacking(self):
        self.check((0, 0, (0,)), (), (0,), 0, [("none",)])
        self.check((5, 5, (0, 0, 0)), (0,), (1, 2), 0, [("none",)])

    def test_one_and_the_same(self):
        for sea in FEW:
            for standing in standings_of(sea):
                self.assertEqual(lack_of(sea, standing, standing), (0, ("none",)))
                self.assertIs(shows_lack(sea, standing, standing, 0, ("none",)), True)
                self.assertIs(shows_lack(sea, standing, standing, 1, ("none",)), False)
                for thing in made_like_papers(sea):
                    for many in (0, 1, 2):
                        wanted = thing == ("none",) and many == 0
                        self.assertIs(shows_lack(sea, standing, standing, many, thing), wanted)

    def test_below(self):
        self.check((0, 2, (0, 0, 2)), (2,), (), 2, [("below", 1)])
        self.check((0, 2, (0, 0, 2)), (), (2,), 2, [("below", 1)])
        self.check((0, 0, (0, 0, 1)), (2,), (), 1, [("below", 0)])

    def test_above(self):
        self.check((2, 0, (0, 0, 2)), (0, 1), (0, 1, 2), 2, [("above", 1)])
        self.check((2, 0, (0, 0, 2)), (0, 1, 2), (0, 1), 2, [("above", 1)])
        self.check((0, 0, (0, 0, 1)), (0, 1), (0, 1, 2), 1, [("above", 2)])

    def test_both(self):
        self.check((0, 0, (0, 1, 1)), (0, 1, 2), (), 1, [("both", 0, 2)])
        self.check((0, 0, (0, 1, 1)), (), (0, 1, 2), 1, [("both", 0, 2)])
        self.check((0, 1, (0, 0, 2, 2)), (1,), (0, 1, 2, 3), 1, [("both", 1, 3)])
        self.check((0, 0, (0, 0, 2, 2, 2)), (1, 2, 3, 4), (), 2, [("both", 1, 3)])

    def test_apart(self):
        for sea, one, other in (((0, 0, (1,)), (), (0,)), ((0, 9, (1, 1)), (), (0,)), ((0, 9, (1, 1)), (0,), ()),
                                ((0, 9, (0, 2, 2)), (), (1,)), ((BIG, 0, (1, 1)), (0, 1), (0,))):
            with self.assertRaises(Apart) as caught:
                lack_of(sea, one, other)
            self.assertIs(type(caught.exception), Apart)

    def test_24_ships(self):
        ships = tuple(range(24))
        self.check((0, BIG, ships), (), (23,), 23, [("below", 22)])
        self.check((BIG, 0, ships), ships[:23], ships, 23, [("above", 1)])
        self.assertEqual(lack_of((0, BIG, ships), (), ships), (0, ("none",)))


class AsGoneThroughTests(unittest.TestCase):
    def check_pair(self, sea, one, other, far):
        told = lack_of(sea, one, other)
        self.assertIs(type(told), tuple)
        lack, paper = told
        self.assertEqual(len(set(one) ^ set(other)) + 2 * lack, far, (sea, one, other))
        self.assertIs(shows_lack(sea, one, other, lack, paper), True, (sea, one, other, told))
        self.assertTrue(paper_by_words(sea, one, other, lack, paper), (sea, one, other, told))
        for less in range(lack):
            self.assertIs(shows_lack(sea, one, other, less, paper), paper != ("none",))
        for more in (1, 2, 24, BIG):
            self.assertIs(shows_lack(sea, one, other, lack + more, paper), False)
        self.assertEqual(lack_of(sea, one, other), told)

    def check_sea(self, sea):
        for one in standings_of(sea):
            far = far_by_going(sea, one)
            for other in standings_of(sea):
                if other in far:
                    self.check_pair(sea, one, other, far[other])
                else:
                    self.assertRaises(Apart, lack_of, sea, one, other)

    def test_all_pairs_of_small_seas(self):
        for sea in list(small_seas())[1::4] + list(FEW):
            self.check_sea(sea)

    def test_all_pairs_of_seas_with_helpers(self):
        for sea in helping_seas(41, 40, 5, 3):
            self.check_sea(sea)

    def test_pairs_of_more_ships(self):
        rnd = random.Random(7)
        for sea in helping_seas(43, 40, 8, 6):
            for one in rnd.sample(standings_of(sea), 6):
                far = far_by_going(sea, one)
                for other in rnd.sample(sorted(far), min(len(far), 12)):
                    self.check_pair(sea, one, other, far[other])

    def test_none_shows_more_than_is_lacking(self):
        for sea in FEW:
            for one, other in pairs_that_come(sea):
                lack = (far_by_going(sea, one)[other] - len(set(one) ^ set(other))) // 2
                for thing in made_like_papers(sea):
                    self.assertIs(shows_lack(sea, one, other, lack + 1, thing), False, (sea, one, other, thing))

    def test_each_sort_is_told(self):
        told = {lack_of(sea, one, other)[1][0] for sea in FEW for one, other in pairs_that_come(sea)}
        self.assertEqual(told, {"none", "below", "above", "both"})

    def test_full_seas(self):
        for sea, one, other in full_pairs():
            self.assertEqual(len(sea[2]), MOST_SHIPS)
            for start, end in ((one, other), (other, one)):
                self.check_pair(sea, start, end, how_far(sea, start, end))

    def test_full_seas_of_unlike_draughts(self):
        rnd = random.Random(19)
        for sea in helping_seas(45, 30, 24, 22):
            one = tuple(sorted(rnd.sample(range(len(sea[2])), rnd.randint(0, len(sea[2])))))
            other = one
            for _ in range(60):
                able = may_by_count(sea, other)
                other = gone_over(other, rnd.choice(able)) if able else other
            self.check_pair(sea, one, other, how_far(sea, one, other))


class ShowsLackTests(unittest.TestCase):
    def test_all_made_like_papers(self):
        for sea in FEW + tuple(helping_seas(47, 12, 5, 4)) + tuple(small_seas())[::101]:
            pairs = pairs_that_come(sea)
            for one, other in pairs[::1 + len(pairs) // 60]:
                for thing in made_like_papers(sea):
                    for many in range(4):
                        wanted = paper_by_words(sea, one, other, many, thing)
                        told = shows_lack(sea, one, other, many, thing)
                        self.assertIs(told, wanted, (sea, one, other, many, thing))

    def test_all_steps_of_full_seas(self):
        for sea, one, other in list(full_pairs())[:6]:
            for thing in made_like_papers(sea):
                for many in (0, 1, 4, 8):
                    wanted = paper_by_words(sea, one, other, many, thing)
                    self.assertIs(shows_lack(sea, one, other, many, thing), wanted, (sea, one, other, many, thing))

    def test_one_thing_otherwise(self):
        for sea in FEW:
            for one, other in pairs_that_come(sea)[::3]:
                papers = [thing for thing in made_like_papers(sea) if paper_by_words(sea, one, other, 0, thing)]
                for paper in papers:
                    self.assertIs(shows_lack(sea, one, other, 0, paper), True)
                    for thing in [*otherwise(paper), *(replaced(paper, 0, word) for word in WORDS)]:
                        for many in (0, 1):
                            wanted = paper_by_words(sea, one, other, many, thing)
                            told = shows_lack(sea, one, other, many, thing)
                            self.assertIs(told, wanted, (sea, one, other, many, thing))

    def test_wrong_kinds(self):
        sea, one, other = (0, 0, (0, 1, 1)), (), (0, 1, 2)
        for paper in (("none",), ("below", 0), ("above", 2), ("both", 0, 2)):
            self.assertIs(shows_lack(sea, one, other, 0, paper), True)
        for thing in (["none"], "none", ("None",), ("none", 0), ("none", ()), (("none",),), (), None, 0, True,
                      ["below", 0], ("below", False), ("below",), ("below", "0"), ("below", (0,)), ("below", 1),
                      ("below", -1), ("below", 0, 0), (0, "below"), ("above", 1), ("above", 3), ("above", "2"),
                      ("above", 2, 2), ("below", 2), ("above", 0), ["both", 0, 2], ("both", False, 2),
                      ("both", 0), ("both", 2, 0), ("both", 0, 1), ("both", 0, 3), ("both", 1, 2), ("both", -1, 2),
                      ("both", 0, 2, 2), ("both", (0, 2)), ("both", None, 2), ("both", 0, None), ("both", 0, True)):
            self.assertIs(shows_lack(sea, one, other, 0, thing), False, thing)

    def test_things_of_any_make(self):
        sea, one, other = (0, 0, (0, 1, 1)), (), (0, 1, 2)
        for thing in any_things(9, 2500):
            for made in (thing, ("none", thing), (thing,), ("below", thing), ("above", thing),
                         ("both", thing, 2), ("both", 0, thing), (thing, 0)):
                for many in (0, 1):
                    wanted = paper_by_words(sea, one, other, many, made)
                    self.assertIs(shows_lack(sea, one, other, many, made), wanted, made)


class HandingInTests(unittest.TestCase):
    def test_all(self):
        for sea in FEW[:8]:
            for one, other in list(product(standings_of(sea), repeat=2))[::3]:
                check_handing(self, lack_of, sea=sea, one=one, other=other)
            for one, other in pairs_that_come(sea)[::5]:
                for thing in (lack_of(sea, one, other)[1], ("both", 0, 2), ["none"], None):
                    check_handing(self, shows_lack, ("thing",), sea=sea, one=one, other=other, many=1, thing=thing)

    def test_kinds(self):
        lack, paper = lack_of([0, 2, [0, 0, 2]], [2], [])
        self.assertEqual((type(lack), type(paper), [type(part) for part in paper]), (int, tuple, [str, int]))
        lack, paper = lack_of([0, 2, [0, 0, 2]], [2], (2,))
        self.assertEqual((type(lack), paper), (int, ("none",)))
        self.assertEqual(lack_of([0, 2, [0, 0, 2]], [2], (2,)), (0, ("none",)))


if __name__ == "__main__":
    unittest.main()
