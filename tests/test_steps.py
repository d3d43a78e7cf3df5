"""Point [6]: marks, goers, the top step and windows; points [2] to [4] for these."""

import copy
import unittest

from sample_seas import BIG, MOST_SHIPS, afloat_both_ways, all_seas, small_seas, steps_of
from shoalmates.steps import goers_at, mark_at, top_step, window_of


def marks_of(sea):
    return [mark_at(sea, step) for step in steps_of(sea)]


def goers_of(sea):
    return [goers_at(sea, step) for step in steps_of(sea)]


def windows_of(sea):
    return [window_of(sea, ship) for ship in range(len(sea[2]))]


class MarkTests(unittest.TestCase):
    def test_one_ship(self):
        self.assertEqual(marks_of((0, 0, (0,))), [0])
        self.assertEqual(marks_of((3, 5, (9,))), [3])
        self.assertEqual(marks_of((5, 3, (9,))), [3])
        self.assertEqual(marks_of((BIG, 0, (0,))), [0])
        self.assertEqual(marks_of((BIG, BIG, (BIG,))), [BIG])

    def test_few_ships(self):
        self.assertEqual(marks_of((0, 0, (0, 0))), [0, 0])
        self.assertEqual(marks_of((2, 2, (1, 2, 3))), [2, 3, 2])
        self.assertEqual(marks_of((1, 3, (0, 7, 2, 2))), [1, 2, 3, 3])
        self.assertEqual(marks_of((3, 1, (0, 7, 2, 2))), [3, 3, 2, 1])
        self.assertEqual(marks_of((0, 9, (1, 1, 1, 1))), [0, 1, 2, 3])
        self.assertEqual(marks_of((9, 0, (1, 1, 1, 1))), [3, 2, 1, 0])

    def test_24_ships(self):
        rising = list(range(12))
        alike = (0,) * MOST_SHIPS
        self.assertEqual(marks_of((0, 0, alike)), rising + rising[::-1])
        self.assertEqual(marks_of((0, BIG, alike)), list(range(24)))
        self.assertEqual(marks_of((BIG, 0, alike)), list(range(23, -1, -1)))

    def test_near_the_bound(self):
        self.assertEqual(marks_of((BIG, BIG - 2, (0, BIG, 1, 2))), [BIG, BIG, BIG - 1, BIG - 2])
        self.assertEqual(marks_of((BIG - 1, BIG, (5, 5, 5))), [BIG - 1, BIG, BIG])

    def test_it_is_the_lesser_depth(self):
        for sea in all_seas():
            here, there, draughts = sea
            for step in steps_of(sea):
                with_mates = [here + step, there + len(draughts) - 1 - step]
                self.assertEqual(mark_at(sea, step), sorted(with_mates)[0], (sea, step))

    def test_draughts_do_not_matter(self):
        self.assertEqual(marks_of((4, 2, (0, 0, 0))), marks_of((4, 2, (BIG, 7, 1))))

    def test_it_is_a_plain_number(self):
        for mark in marks_of((2, 2, [1, 2, 3])):
            self.assertIs(type(mark), int)


class GoersTests(unittest.TestCase):
    def test_written_out(self):
        sea = (2, 2, (3, 0, 2, 4, 3))
        self.assertEqual(goers_of(sea), [[1, 2], [0, 1, 2, 4], [0, 1, 2, 3, 4], [0, 1, 2, 4], [1, 2]])

    def test_none_and_all(self):
        self.assertEqual(goers_of((0, 0, (1,))), [[]])
        self.assertEqual(goers_of((0, 0, (0,))), [[0]])
        self.assertEqual(goers_of((1, 1, (9, 8, 7))), [[], [], []])
        self.assertEqual(goers_of((BIG, BIG, (BIG,) * 24)), [list(range(24))] * 24)

    def test_a_draught_at_the_mark_goes_and_one_above_does_not(self):
        sea = (BIG - 1, BIG - 1, (BIG - 2, BIG - 1, BIG))
        self.assertEqual(goers_of(sea), [[0, 1], [0, 1, 2], [0, 1]])

    def test_just_those_that_float_on_both_sides(self):
        for sea in all_seas():
            for step in steps_of(sea):
                wanted = [ship for ship in range(len(sea[2])) if afloat_both_ways(sea, ship, step)]
                self.assertEqual(goers_at(sea, step), wanted, (sea, step))

    def test_what_is_told_is_the_askers_own(self):
        for sea in ((2, 2, (3, 0, 2)), (0, 0, (5, 5)), [2, 2, [3, 0, 2]]):
            told = goers_at(sea, 1)
            kept = list(told)
            told.append(77)
            again = goers_at(sea, 1)
            self.assertEqual(again, kept)
            self.assertIsNot(again, goers_at(sea, 1))

    def test_kinds(self):
        for told in goers_of((2, 2, [3, 0, 2])) + goers_of((0, 0, (1,))):
            self.assertIs(type(told), list)
            self.assertTrue(all(type(ship) is int for ship in told))


class TopStepTests(unittest.TestCase):
    def test_one_step_alone_has_the_greatest_mark(self):
        self.assertEqual(top_step((2, 2, (0, 0, 0))), 1)
        self.assertEqual(top_step((0, 4, (0,) * 24)), 13)
        self.assertEqual(top_step((0, 0, (0,) * 23)), 11)

    def test_two_steps_have_the_greatest_mark(self):
        self.assertEqual(top_step((0, 0, (0, 0))), 0)
        self.assertEqual(top_step((0, 0, (0,) * 24)), 11)
        self.assertEqual(top_step((1, 3, (0, 0, 0, 0))), 2)
        self.assertEqual(top_step((3, 1, (0, 0, 0, 0))), 0)
        self.assertEqual(top_step((BIG, BIG, (BIG,) * 24)), 11)

    def test_the_first_step_has_it(self):
        self.assertEqual(top_step((9, 0, (0, 0, 0))), 0)
        self.assertEqual(top_step((2, 0, (0, 0, 0))), 0)
        self.assertEqual(top_step((BIG, 0, (0,) * 24)), 0)
        self.assertEqual(top_step((BIG, BIG - 23, (0,) * 24)), 0)

    def test_the_last_step_has_it(self):
        self.assertEqual(top_step((0, 9, (0, 0, 0))), 2)
        self.assertEqual(top_step((0, 2, (0, 0, 0))), 2)
        self.assertEqual(top_step((0, BIG, (0,) * 24)), 23)
        self.assertEqual(top_step((BIG - 23, BIG, (0,) * 24)), 23)

    def test_one_ship(self):
        for here, there in ((0, 0), (5, 2), (2, 5), (BIG, 0), (0, BIG)):
            self.assertEqual(top_step((here, there, (3,))), 0)

    def test_the_first_of_the_greatest_marks(self):
        for sea in all_seas():
            marks = marks_of(sea)
            told = top_step(sea)
            self.assertIs(type(told), int)
            self.assertEqual(told, marks.index(max(marks)), sea)


class WindowTests(unittest.TestCase):
    def test_none(self):
        self.assertIsNone(window_of((0, 0, (1,)), 0))
        self.assertIsNone(window_of((0, 0, (0, 1)), 1))
        self.assertIsNone(window_of((0, 0, (12,) + (0,) * 23), 0))
        self.assertIsNone(window_of((BIG - 24, BIG - 24, (0,) * 23 + (BIG,)), 23))
        self.assertIsNone(window_of((BIG, 0, (BIG, 0)), 0))

    def test_one_step_alone(self):
        self.assertEqual(window_of((2, 2, (0, 3, 0)), 1), (1, 1))
        self.assertEqual(window_of((4, 4, (4,)), 0), (0, 0))
        self.assertEqual(window_of((9, 0, (1, 2, 0)), 1), (0, 0))
        self.assertEqual(window_of((0, 9, (1, 0, 2)), 2), (2, 2))
        self.assertEqual(window_of((0, BIG, (23,) * 24), 7), (23, 23))

    def test_all_steps(self):
        self.assertEqual(window_of((2, 2, (0, 2, 0)), 1), (0, 2))
        self.assertEqual(window_of((0, 0, (0,) * 24), 23), (0, 23))
        self.assertEqual(window_of((BIG, BIG, (BIG,) * 24), 0), (0, 23))

    def test_some_steps(self):
        self.assertEqual(windows_of((0, 0, (0, 1, 2, 3, 0))), [(0, 4), (1, 3), (2, 2), None, (0, 4)])
        self.assertEqual(windows_of((1, 3, (0, 1, 2, 3, 4))), [(0, 4), (0, 4), (1, 4), (2, 4), (3, 3)])
        self.assertEqual(windows_of((3, 1, (0, 1, 2, 3, 4))), [(0, 4), (0, 4), (0, 3), (0, 2), (1, 1)])

    def test_as_a_look_through_all_steps(self):
        for sea in all_seas():
            for ship in range(len(sea[2])):
                steps = [step for step in steps_of(sea) if afloat_both_ways(sea, ship, step)]
                told = window_of(sea, ship)
                if not steps:
                    self.assertIsNone(told, (sea, ship))
                else:
                    self.assertEqual(told, (steps[0], steps[-1]), (sea, ship))
                    self.assertEqual(steps, list(range(told[0], told[1] + 1)))

    def test_goers_are_those_whose_window_has_the_step(self):
        for sea in small_seas():
            windows = windows_of(sea)
            for step in steps_of(sea):
                wanted = [ship for ship, pair in enumerate(windows)
                          if pair is not None and pair[0] <= step <= pair[1]]
                self.assertEqual(goers_at(sea, step), wanted, (sea, step))

    def test_kinds(self):
        for sea in ((2, 2, (0, 3, 0)), [2, 2, [0, 3, 0]]):
            told = window_of(sea, 1)
            self.assertIs(type(told), tuple)
            self.assertEqual([type(step) for step in told], [int, int])


class HandingInTests(unittest.TestCase):
    """Points [2] and [3]: names, lists for tuples, nothing changed and nothing kept."""

    def told_of(self, sea):
        return (marks_of(sea), goers_of(sea), top_step(sea), windows_of(sea))

    def test_by_names(self):
        sea = (1, 3, (0, 7, 2, 2))
        self.assertEqual(mark_at(sea=sea, step=1), 2)
        self.assertEqual(goers_at(step=1, sea=sea), [0, 2, 3])
        self.assertEqual(top_step(sea=sea), 2)
        self.assertEqual(window_of(ship=2, sea=sea), (1, 3))
        self.assertEqual(mark_at(sea, step=1), mark_at(sea, 1))
        self.assertEqual(goers_at(sea, step=1), goers_at(sea, 1))
        self.assertEqual(window_of(sea, ship=2), window_of(sea, 2))

    def test_lists_for_tuples(self):
        for here, there, draughts in small_seas():
            wanted = self.told_of((here, there, draughts))
            self.assertEqual(self.told_of([here, there, draughts]), wanted)
            self.assertEqual(self.told_of((here, there, list(draughts))), wanted)
            self.assertEqual(self.told_of([here, there, list(draughts)]), wanted)

    def test_nothing_handed_in_is_changed(self):
        sea = [1, 3, [5, 0, 2, 2]]
        before = copy.deepcopy(sea)
        self.told_of(sea)
        self.assertEqual(sea, before)

    def test_nothing_handed_in_is_kept(self):
        sea = [1, 3, [5, 0, 2, 2]]
        self.told_of(sea)
        sea[0] = 4
        sea[2][0] = 1
        sea[2].append(3)
        self.assertEqual(self.told_of(sea), self.told_of((4, 3, (1, 0, 2, 2, 3))))

    def test_asked_again(self):
        sea = (1, 3, (5, 0, 2, 2))
        self.assertEqual(self.told_of(sea), self.told_of(sea))

    def test_what_was_told_may_be_handed_in_again(self):
        sea = (1, 3, (0, 7, 2, 2))
        self.assertEqual(mark_at(sea, top_step(sea)), max(marks_of(sea)))
        for ship in goers_at(sea, top_step(sea)):
            for step in window_of(sea, ship):
                self.assertIn(ship, goers_at(sea, step))

    def test_somewhat_beyond_the_bounds(self):
        sea = (BIG + 7, BIG + 9, (BIG + 40,) * 60)
        self.assertEqual(mark_at(sea, 0), BIG + 7)
        self.assertEqual(top_step(sea), 30)
        self.assertEqual(window_of(sea, 59), None)
        self.assertEqual(window_of((BIG + 7, BIG + 9, (BIG + 37,) * 60), 59), (30, 31))
        self.assertEqual(goers_at(sea, 30), [])


if __name__ == "__main__":
    unittest.main()
