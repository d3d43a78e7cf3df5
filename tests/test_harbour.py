"""Point [16]: a harbour kept over deeds; promise (i)."""

import random
import unittest
from unittest import mock

from going import may_by_count
from handing import shape_of
from kept import Kept, kept_after
from sample_seas import BIG
from shoalmates.errors import Full, MayNot, NoDeed, NoShip
from shoalmates.harbour import Harbour

REFUSALS = (Full, MayNot, NoDeed, NoShip)
WORDS = ("moor", "leave", "cross", "sail", "dredge", "undo")


def asks(harbour):
    """All that can be asked of a harbour, but the log."""
    return {"sea": harbour.sea(), "standing": harbour.standing(), "may_go": harbour.may_go(),
            "movers": harbour.movers(), "crossings": harbour.crossings(), "deeds": harbour.deeds(),
            "len": len(harbour), "repr": repr(harbour)}


def outcome(harbour, word, *told):
    """What a method tells, or the class and the fields of what it is refused with."""
    try:
        return getattr(harbour, word)(*told)
    except REFUSALS as error:
        return (type(error), vars(error))


def some_deed(rnd, ships):
    """Some deed, right or wrong, of a harbour of so many ships."""
    word = rnd.choice(("moor", "moor", "moor", "leave", "cross", "cross", "cross", "sail", "sail", "dredge"))
    side = rnd.choice(("here", "there"))
    ship = rnd.choice((-1, ships, *range(ships), *range(ships)))
    if word == "moor":
        return (word, rnd.choice((0, 0, 1, 2, 3, 4)), side)
    if word == "dredge":
        return (word, side, rnd.choice((0, 1, 2)))
    if word == "sail":
        return (word, [rnd.randint(0, ships) for _ in range(rnd.choice((0, 1, 1, 2, 3)))])
    return (word, ship)


def small_harbour():
    """A harbour of three ships, of which one lies here, behind four deeds."""
    harbour = Harbour(0, 2)
    for draught, side in ((0, "there"), (0, "there"), (2, "here")):
        harbour.moor(draught, side)
    harbour.dredge("there", 1)
    return harbour


class WrittenOutTests(unittest.TestCase):
    def test_no_ship_yet(self):
        harbour = Harbour(3, 5)
        self.assertEqual(asks(harbour), {"sea": (3, 5, ()), "standing": (), "may_go": [], "movers": [],
                                         "crossings": 0, "deeds": 0, "len": 0, "repr": "Harbour(0 ships, 0 here)"})
        self.assertEqual(harbour.log(), [])

    def test_moor(self):
        harbour = Harbour(3, 5)
        self.assertEqual(harbour.moor(4, "here"), 0)
        self.assertEqual(repr(harbour), "Harbour(1 ships, 1 here)")
        self.assertEqual(harbour.moor(0, "there"), 1)
        self.assertEqual(harbour.moor(BIG, "here"), 2)
        self.assertEqual(harbour.sea(), (3, 5, (4, 0, BIG)))
        self.assertEqual(harbour.standing(), (0, 2))
        self.assertEqual(repr(harbour), "Harbour(3 ships, 2 here)")
        self.assertEqual((len(harbour), harbour.deeds(), harbour.crossings()), (3, 3, 0))

    def test_leave(self):
        harbour = Harbour(0, 0)
        for draught in range(5):
            harbour.moor(draught, "here" if draught % 2 else "there")
        self.assertIsNone(harbour.leave(1))
        self.assertEqual((harbour.sea(), harbour.standing()), ((0, 0, (0, 2, 3, 4)), (2,)))
        self.assertIsNone(harbour.leave(0))
        self.assertEqual((harbour.sea(), harbour.standing()), ((0, 0, (2, 3, 4)), (1,)))
        self.assertIsNone(harbour.leave(2))
        self.assertEqual((harbour.sea(), harbour.standing()), ((0, 0, (2, 3)), (1,)))
        self.assertEqual(harbour.moor(9, "here"), 2)
        harbour.leave(0)
        harbour.leave(0)
        harbour.leave(0)
        self.assertEqual((harbour.sea(), harbour.standing(), len(harbour)), ((0, 0, ()), (), 0))
        self.assertEqual(harbour.deeds(), 12)

    def test_cross_and_sail(self):
        harbour = small_harbour()
        self.assertIsNone(harbour.cross(0))
        self.assertEqual(harbour.standing(), (0, 2))
        self.assertIsNone(harbour.sail([1, 2, 1, 0]))
        self.assertEqual(harbour.standing(), ())
        self.assertEqual((harbour.crossings(), harbour.deeds()), (5, 6))
        self.assertIsNone(harbour.sail([]))
        self.assertEqual((harbour.crossings(), harbour.deeds(), harbour.standing()), (5, 7, ()))
        self.assertIs(harbour.undo(), True)
        self.assertIs(harbour.undo(), True)
        self.assertEqual((harbour.crossings(), harbour.deeds(), harbour.standing()), (1, 5, (0, 2)))

    def test_dredge(self):
        harbour = Harbour(1, 2)
        self.assertIsNone(harbour.dredge("here", 3))
        self.assertIsNone(harbour.dredge("there", BIG))
        self.assertIsNone(harbour.dredge("here", 0))
        self.assertEqual(harbour.sea(), (4, BIG + 2, ()))
        self.assertEqual(harbour.deeds(), 3)

    def test_may_go_and_movers(self):
        harbour = small_harbour()
        self.assertEqual(harbour.may_go(), [0, 1])
        self.assertEqual(harbour.movers(), [0, 1, 2])
        harbour.leave(0)
        self.assertEqual(harbour.may_go(), [0])
        self.assertEqual(harbour.movers(), [0])

    def test_undo_to_the_bare_harbour_and_beyond(self):
        harbour = small_harbour()
        self.assertEqual([harbour.undo() for _ in range(6)], [True] * 4 + [False] * 2)
        self.assertEqual(asks(harbour), asks(Harbour(0, 2)))
        self.assertEqual(harbour.moor(7, "here"), 0)
        self.assertEqual(harbour.deeds(), 1)
        self.assertIs(Harbour(0, 0).undo(), False)


class RefusalTests(unittest.TestCase):
    def check_refused(self, harbour, refusal, fields, word, *told):
        before, log = asks(harbour), harbour.log()
        with self.assertRaises(refusal) as caught:
            getattr(harbour, word)(*told)
        self.assertIs(type(caught.exception), refusal)
        self.assertEqual(vars(caught.exception), fields)
        self.assertEqual(asks(harbour), before)
        written = [("in", word), ("out", word)] if word in WORDS else []
        self.assertEqual(harbour.log(), log + written)

    def test_full(self):
        harbour = Harbour(0, 0)
        for ship in range(24):
            self.assertEqual(harbour.moor(ship, "here"), ship)
        for side in ("here", "there"):
            self.check_refused(harbour, Full, {"many": 24}, "moor", 0, side)
        harbour.leave(7)
        self.assertEqual(harbour.moor(1, "there"), 23)
        self.check_refused(harbour, Full, {"many": 24}, "moor", 0, "here")
        harbour.undo()
        self.assertEqual(harbour.moor(1, "here"), 23)
        self.assertEqual(len(harbour), 24)

    def test_no_ship(self):
        for ship in (3, 4, 24, BIG, -1, -3, -BIG):
            harbour = small_harbour()
            self.check_refused(harbour, NoShip, {"ship": ship}, "leave", ship)
            self.check_refused(harbour, NoShip, {"ship": ship}, "cross", ship)
            self.check_refused(harbour, NoShip, {"ship": ship}, "sail", [ship])
            self.check_refused(harbour, NoShip, {"ship": ship}, "sail", [0, 1, ship, 2])
        for ship in (0, 1, -1):
            for word in ("leave", "cross"):
                self.check_refused(Harbour(9, 9), NoShip, {"ship": ship}, word, ship)

    def test_may_not(self):
        harbour = small_harbour()
        self.check_refused(harbour, MayNot, {"ship": 2}, "cross", 2)
        self.check_refused(harbour, MayNot, {"ship": 2}, "sail", [0, 2, 1])
        self.check_refused(harbour, MayNot, {"ship": 2}, "sail", [2])

    def test_the_first_of_the_row_is_told(self):
        harbour = small_harbour()
        self.check_refused(harbour, MayNot, {"ship": 2}, "sail", [0, 2, 9])
        self.check_refused(harbour, NoShip, {"ship": 9}, "sail", [0, 9, 2])
        self.check_refused(harbour, NoShip, {"ship": 9}, "sail", [9, 2])
        self.check_refused(harbour, MayNot, {"ship": 2}, "sail", (2, 9))

    def test_no_deed(self):
        harbour = small_harbour()
        for many in (5, 6, BIG, -1, -4, -5, -BIG):
            self.check_refused(harbour, NoDeed, {"many": many}, "as_of", many)
        harbour.undo()
        self.check_refused(harbour, NoDeed, {"many": 4}, "as_of", 4)
        for many in (1, -1):
            self.check_refused(Harbour(0, 0), NoDeed, {"many": many}, "as_of", many)


class AsOfTests(unittest.TestCase):
    def test_each_number_of_deeds(self):
        harbour = small_harbour()
        harbour.sail([0, 1, 2])
        harbour.leave(0)
        states = []
        elder = small_harbour()
        for many in range(harbour.deeds() + 1):
            elder = harbour.as_of(many)
            self.assertIs(type(elder), Harbour)
            self.assertEqual(elder.deeds(), many)
            self.assertEqual(elder.log(), [])
            states.append(asks(elder))
            for left in reversed(range(many)):
                self.assertIs(elder.undo(), True)
                self.assertEqual(asks(elder), states[left])
            self.assertIs(elder.undo(), False)
        self.assertEqual(states[-1], asks(harbour))
        self.assertEqual(states[0], asks(Harbour(0, 2)))

    def test_they_go_on_by_themselves(self):
        harbour = small_harbour()
        before, log = asks(harbour), harbour.log()
        for other in (harbour.twin(), harbour.as_of(4), harbour.as_of(3), harbour.as_of(0)):
            kept = asks(other)
            other.moor(5, "here")
            other.dredge("here", 9)
            other.undo()
            other.undo()
            self.assertEqual(asks(other), kept)
            while other.undo():
                pass
            self.assertEqual(asks(harbour), before)
            self.assertEqual(harbour.log(), log)
        twin, elder = harbour.twin(), harbour.as_of(2)
        kept, elder_kept = asks(twin), asks(elder)
        harbour.cross(0)
        harbour.undo()
        harbour.undo()
        harbour.leave(0)
        self.assertEqual(asks(twin), kept)
        self.assertEqual(asks(elder), elder_kept)
        self.assertEqual(twin.log(), [])

    def test_twin(self):
        harbour = small_harbour()
        harbour.sail([0, 1, 2])
        twin = harbour.twin()
        self.assertIs(type(twin), Harbour)
        self.assertIsNot(twin, harbour)
        self.assertEqual(asks(twin), asks(harbour))
        self.assertEqual(twin, harbour)
        self.assertEqual(twin.log(), [])
        self.assertEqual(asks(twin.as_of(3)), asks(harbour.as_of(3)))
        self.assertEqual(twin.twin(), harbour)

    def test_asks_write_no_log(self):
        harbour = small_harbour()
        log = harbour.log()
        asks(harbour)
        harbour.as_of(1)
        harbour.twin()
        self.assertEqual(harbour == harbour.twin(), True)
        self.assertEqual(harbour.log(), log)


class LogTests(unittest.TestCase):
    def test_each_word(self):
        harbour = Harbour(0, 0)
        harbour.moor(0, "here")
        harbour.cross(0)
        harbour.sail([0, 0])
        harbour.sail([])
        harbour.dredge("here", 1)
        harbour.leave(0)
        harbour.undo()
        words = ["moor", "cross", "sail", "sail", "dredge", "leave", "undo"]
        wanted = [(side, word) for word in words for side in ("in", "out")]
        self.assertEqual(harbour.log(), wanted)
        self.assertEqual(shape_of(harbour.log()), shape_of(wanted))

    def test_refused_and_undone_ones(self):
        harbour = Harbour(0, 0)
        for word, *told in (("undo",), ("cross", 0), ("leave", -1), ("sail", [5]), ("moor", 1, "here"),
                            ("cross", 0), ("sail", [0]), ("undo",), ("undo",)):
            before = harbour.log()
            outcome(harbour, word, *told)
            self.assertEqual(harbour.log(), before + [("in", word), ("out", word)])
        self.assertEqual(len(harbour.log()), 18)

    def test_the_told_log_is_the_askers_own(self):
        harbour = small_harbour()
        log = harbour.log()
        kept = list(log)
        log.append("spoilt")
        log.reverse()
        self.assertEqual(harbour.log(), kept)
        self.assertIsNot(harbour.log(), harbour.log())


class EqualTests(unittest.TestCase):
    def test_by_sea_and_standing_alone(self):
        one, other = Harbour(1, 2), Harbour(0, 2)
        self.assertNotEqual(one, other)
        other.dredge("here", 1)
        self.assertEqual(one, other)
        one.moor(3, "here")
        self.assertNotEqual(one, other)
        other.moor(3, "there")
        self.assertNotEqual(one, other)
        self.assertIs(one == other, False)
        self.assertIs(one != other, True)
        other.undo()
        other.moor(3, "here")
        self.assertIs(one == other, True)
        self.assertIs(one != other, False)
        self.assertNotEqual(one.deeds(), other.deeds())
        one.moor(0, "there")
        other.moor(1, "there")
        self.assertNotEqual(one, other)

    def test_depths_count(self):
        self.assertNotEqual(Harbour(1, 2), Harbour(2, 1))
        self.assertNotEqual(Harbour(1, 2), Harbour(1, 3))
        self.assertEqual(Harbour(1, 2), Harbour(1, 2))

    def test_to_nothing_of_another_class(self):
        harbour = small_harbour()
        for thing in (None, 0, 3, "", repr(harbour), (), harbour.sea(), (harbour.sea(), harbour.standing()),
                      [harbour], (harbour,), Harbour, object(), Kept(0, 3)):
            self.assertIs(harbour == thing, False)
            self.assertIs(harbour != thing, True)
        self.assertIs(harbour == mock.ANY, False)
        self.assertIs(Harbour(0, 0) == (), False)

    def test_len_and_repr(self):
        harbour = Harbour(0, 0)
        for many in range(4):
            self.assertEqual(len(harbour), many)
            self.assertEqual(repr(harbour), f"Harbour({many} ships, {many // 2} here)")
            self.assertEqual(str(harbour), repr(harbour))
            harbour.moor(0, "here" if many % 2 else "there")


class ManyDeedsTests(unittest.TestCase):
    def check_run(self, rnd, deeds, most_ships):
        depths = (rnd.randint(0, 3), rnd.randint(0, 3))
        harbour, standing_deeds, log = Harbour(*depths), [], []
        for _ in range(deeds):
            kept = kept_after(depths, standing_deeds)
            if rnd.random() < 0.2:
                self.assertIs(harbour.undo(), bool(standing_deeds))
                standing_deeds = standing_deeds[:-1]
                log += [("in", "undo"), ("out", "undo")]
            else:
                deed = some_deed(rnd, len(kept.ships))
                if deed[0] == "moor" and len(kept.ships) >= most_ships:
                    continue
                wanted = kept.do(*deed)
                self.assertEqual(outcome(harbour, *deed), wanted, (depths, standing_deeds, deed))
                log += [("in", deed[0]), ("out", deed[0])]
                if not isinstance(wanted, tuple):
                    standing_deeds = standing_deeds + [deed]
            self.assertEqual(asks(harbour), kept_after(depths, standing_deeds).asks(), (depths, standing_deeds))
            self.assertEqual(harbour.log(), log)
        for many in range(len(standing_deeds) + 1):
            self.assertEqual(asks(harbour.as_of(many)), kept_after(depths, standing_deeds[:many]).asks())

    def test_as_done_anew(self):
        for seed in range(120):
            self.check_run(random.Random(seed), 40, 6)

    def test_24_ships_and_80_deeds(self):
        rnd = random.Random(99)
        harbour, depths, done = Harbour(2, 2), (2, 2), []
        for place in range(80):
            kept = kept_after(depths, done)
            deed = ("moor", rnd.randint(0, 4), rnd.choice(("here", "there")))
            if place % 3 == 2 and len(kept.ships):
                deed = ("sail", may_by_count(kept.sea(), kept.standing())[:1])
            wanted = kept.do(*deed)
            self.assertEqual(outcome(harbour, *deed), wanted)
            if not isinstance(wanted, tuple):
                done.append(deed)
            kept = kept_after(depths, done)
            self.assertEqual((harbour.sea(), harbour.standing()), (kept.sea(), kept.standing()))
            self.assertEqual((harbour.deeds(), harbour.crossings()), (kept.deeds, kept.crossings))
            self.assertEqual(harbour.may_go(), may_by_count(kept.sea(), kept.standing()))
        self.assertEqual(len(harbour), 24)
        while harbour.undo():
            pass
        self.assertEqual(asks(harbour), asks(Harbour(2, 2)))


class HandingInTests(unittest.TestCase):
    def test_by_names(self):
        harbour = Harbour(there=2, here=0)
        self.assertEqual(harbour.moor(side="there", draught=0), 0)
        self.assertEqual(harbour.moor(draught=0, side="there"), 1)
        self.assertEqual(harbour.moor(side="here", draught=2), 2)
        self.assertIsNone(harbour.dredge(more=1, side="there"))
        self.assertEqual(asks(harbour), asks(small_harbour()))
        self.assertIsNone(harbour.cross(ship=0))
        self.assertIsNone(harbour.sail(row=[1, 2]))
        self.assertIsNone(harbour.leave(ship=2))
        self.assertEqual(harbour.as_of(many=4), small_harbour())

    def test_rows_may_be_tuples(self):
        one, other = small_harbour(), small_harbour()
        one.sail((0, 1, 2))
        other.sail([0, 1, 2])
        self.assertEqual(asks(one), asks(other))
        one.sail(())
        self.assertEqual(one.deeds(), other.deeds() + 1)

    def test_a_row_handed_in_is_neither_changed_nor_kept(self):
        harbour, row = small_harbour(), [0, 1, 2]
        harbour.sail(row)
        self.assertEqual(row, [0, 1, 2])
        told = asks(harbour)
        row.clear()
        self.assertEqual(asks(harbour), told)
        refused = [0, 2]
        self.assertRaises(MayNot, small_harbour().sail, refused)
        self.assertEqual(refused, [0, 2])

    def test_told_lists_are_the_askers_own(self):
        harbour = small_harbour()
        kept = asks(harbour)
        for ask in (harbour.may_go, harbour.movers, harbour.log, Harbour(0, 0).may_go, Harbour(0, 0).movers):
            first, second = ask(), ask()
            self.assertIsNot(first, second)
            self.assertEqual(first, second)
            first.append("spoilt")
            self.assertEqual(ask(), second)
        self.assertEqual(asks(harbour), kept)

    def test_kinds(self):
        harbour = small_harbour()
        harbour.sail((0,))
        sea, standing = harbour.sea(), harbour.standing()
        self.assertEqual([type(thing) for thing in (sea, sea[2], standing)], [tuple] * 3)
        self.assertEqual([type(thing) for thing in (harbour.may_go(), harbour.movers(), harbour.log())], [list] * 3)
        for number in (harbour.crossings(), harbour.deeds(), harbour.moor(0, "here"), len(harbour)):
            self.assertIs(type(number), int)
        self.assertIs(type(repr(harbour)), str)

    def test_methods_stand_in_the_class_itself(self):
        for name in ("moor", "leave", "cross", "sail", "dredge", "undo", "sea", "standing", "may_go", "movers",
                     "crossings", "deeds", "as_of", "twin", "log", "__init__", "__eq__", "__len__", "__repr__"):
            self.assertIn(name, vars(Harbour))


if __name__ == "__main__":
    unittest.main()
