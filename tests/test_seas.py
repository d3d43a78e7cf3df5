"""Point [4]: what is a sea and a standing, and the same from the other side."""

import unittest

from going import afloat_by_count, may_by_count, standings_of
from handing import check_handing, with_lists
from sample_seas import BIG, all_seas, small_seas, wide_seas
from shoalmates.crossing import afloat_ones, may_cross
from shoalmates.seas import is_sea, is_standing, other_side, turned_sea
from things import WRONG, any_things, is_plain_number, otherwise, replaced

SEAS = ((0, 0, (0,)), (1, 3, (0, 7, 2, 2)), (2, 2, (3, 0, 2)), (BIG, BIG, (BIG,) * 24),
        (0, BIG, tuple(range(24))), (10 ** 20, 5, (10 ** 30,) * 70))


def sea_by_words(thing):
    """Whether it's a sea, looked at word by word."""
    if type(thing) is not tuple or len(thing) != 3 or type(thing[2]) is not tuple:
        return False
    return len(thing[2]) >= 1 and all(is_plain_number(part) for part in thing[:2] + thing[2])


def standing_by_words(sea, thing):
    """Whether it's a standing, looked at word by word."""
    if type(thing) is not tuple or not all(is_plain_number(part) for part in thing):
        return False
    return all(part in range(len(sea[2])) for part in thing) and list(thing) == sorted(set(thing))


class IsSeaTests(unittest.TestCase):
    def test_seas(self):
        for sea in SEAS:
            self.assertIs(is_sea(sea), True, sea)
        for sea in small_seas():
            self.assertIs(is_sea(sea), True, sea)

    def test_written_out(self):
        for thing in (None, True, 0, "", "0 0 : 0", (), [], (0,), (0, 0), (0, 0, ()), (0, 0, 0),
                      [0, 0, (0,)], (0, 0, [0]), (0, 0, (0,), ()), (0, (0,), 0), ((0,), 0, 0),
                      (0, 0, (0, -1)), (-1, 0, (0,)), (0, -1, (0,)), (True, 0, (0,)),
                      (0, False, (0,)), (0, 0, (True,)), (0, 0, (0, None)), (0, 0, ("0",)),
                      (0, 0, ((0,),)), (0, 0, "0"), (0, 0, ((),)), ((0, 0, (0,)),), "abc"):
            self.assertIs(is_sea(thing), False, thing)

    def test_one_part_otherwise(self):
        for wrong in WRONG:
            self.assertIs(is_sea((wrong, 0, (0, 1))), False, wrong)
            self.assertIs(is_sea((0, wrong, (0, 1))), False, wrong)
            for place in range(3):
                self.assertIs(is_sea((0, 0, replaced((0, 1, 2), place, wrong))), False, wrong)

    def test_one_thing_otherwise(self):
        for sea in SEAS[:4]:
            for thing in otherwise(sea):
                self.assertIs(is_sea(thing), sea_by_words(thing), thing)

    def test_things_of_any_make(self):
        for thing in any_things(1, 4000):
            for made in (thing, (1, 2, thing), (thing, 2, (1,)), (1, 2, (3, thing))):
                self.assertIs(is_sea(made), sea_by_words(made), made)

    def test_by_name(self):
        self.assertIs(is_sea(thing=SEAS[1]), True)
        self.assertIs(is_sea(thing=with_lists(SEAS[1])), False)


class IsStandingTests(unittest.TestCase):
    def test_standings(self):
        for sea in small_seas():
            for standing in standings_of(sea):
                self.assertIs(is_standing(sea, standing), True)
        self.assertIs(is_standing((0, 0, (0,) * 24), tuple(range(24))), True)

    def test_written_out(self):
        sea = (1, 3, (0, 7, 2, 2))
        for thing in (None, True, False, 0, 3, "", "-", "0", [], [0], [0, 1], (4,), (0, 4), (-1,),
                      (-1, 0), (0, 0), (1, 0), (0, 2, 1), (0, 1, 1), (True,), (False, 1), (0, True),
                      (None,), ("0",), ((),), ((0,),), (0, (1,)), (0, [1]), (0, 1, 2, 3, 4), (BIG,)):
            self.assertIs(is_standing(sea, thing), False, thing)

    def test_one_thing_otherwise(self):
        for sea in SEAS[1:5]:
            ships = tuple(range(len(sea[2])))
            for standing in ((), ships, ships[::2], ships[1:3]):
                for thing in otherwise(standing):
                    self.assertIs(is_standing(sea, thing), standing_by_words(sea, thing), thing)

    def test_things_of_any_make(self):
        sea = (1, 3, (0, 7, 2, 2))
        for thing in any_things(2, 4000):
            for made in (thing, (0, thing), (thing,), (0, 1, thing, 3)):
                self.assertIs(is_standing(sea, made), standing_by_words(sea, made), made)


class OtherSideTests(unittest.TestCase):
    def test_written_out(self):
        sea = (1, 3, (0, 7, 2, 2))
        self.assertEqual(other_side(sea, ()), (0, 1, 2, 3))
        self.assertEqual(other_side(sea, (0, 1, 2, 3)), ())
        self.assertEqual(other_side(sea, (1, 2)), (0, 3))
        self.assertEqual(turned_sea(sea), (3, 1, (0, 7, 2, 2)))
        self.assertEqual(turned_sea((BIG, 0, (5,))), (0, BIG, (5,)))

    def test_just_those_that_lie_there(self):
        for sea in small_seas():
            ships = range(len(sea[2]))
            for standing in standings_of(sea):
                wanted = [ship for ship in ships if ship not in standing]
                self.assertEqual(list(other_side(sea, standing)), wanted)

    def test_twice_turned(self):
        for sea in all_seas():
            self.assertEqual(turned_sea(sea), (sea[1], sea[0], sea[2]))
            self.assertEqual(turned_sea(turned_sea(sea)), sea)
            self.assertTrue(is_sea(turned_sea(sea)))
            standing = tuple(range(0, len(sea[2]), 2))
            self.assertEqual(other_side(sea, other_side(sea, standing)), standing)
            self.assertTrue(is_standing(sea, other_side(sea, standing)))

    def test_the_same_goes_on_in_the_turned_sea(self):
        for sea in list(small_seas())[::4] + list(wide_seas())[::9]:
            ships = tuple(range(len(sea[2])))
            for standing in ((), ships, ships[1::2], ships[:2]):
                turned, left = turned_sea(sea), other_side(sea, standing)
                self.assertEqual(may_cross(turned, left), may_by_count(sea, standing))
                self.assertEqual(afloat_ones(turned, left), afloat_by_count(sea, standing))

    def test_60_ships(self):
        sea = (4, 9, tuple(range(60)))
        self.assertEqual(turned_sea(sea), (9, 4, tuple(range(60))))
        self.assertEqual(other_side(sea, tuple(range(0, 60, 2))), tuple(range(1, 60, 2)))
        self.assertIs(is_standing(sea, tuple(range(60))), True)
        self.assertIs(is_standing(sea, tuple(range(61))), False)


class HandingInTests(unittest.TestCase):
    def test_all(self):
        for sea in SEAS:
            ships = tuple(range(len(sea[2])))
            check_handing(self, turned_sea, sea=sea)
            check_handing(self, is_sea, ("thing",), thing=sea)
            for standing in ((), ships, ships[::2]):
                check_handing(self, other_side, sea=sea, standing=standing)
                check_handing(self, is_standing, ("thing",), sea=sea, thing=standing)
                check_handing(self, is_standing, ("thing",), sea=sea, thing=list(standing))

    def test_kinds(self):
        told = turned_sea([1, 3, [0, 7]])
        self.assertEqual((type(told), type(told[2])), (tuple, tuple))
        self.assertIs(type(other_side([1, 3, [0, 7]], [0])), tuple)


if __name__ == "__main__":
    unittest.main()
