"""Point [17], the desk."""

import random
import re
import unittest

from going import far_by_going, lot_by_going
from handing import check_handing
from kept import kept_after
from sample_seas import BIG
from shoalmates.bars import bar_of
from shoalmates.desk import answers
from shoalmates.errors import BadRow

NUMBER = "(?:0|[1-9][0-9]{0,12})"
SIDE = "(?:here|there)"
BASINS = re.compile(f"basins {NUMBER} {NUMBER}")
FORMS = re.compile(f"moor {NUMBER} {SIDE}|(?:leave|cross) {NUMBER}|sail(?: {NUMBER})+|dredge {SIDE} {NUMBER}"
                   f"|undo|standing|may|movers|most|least|sea|far(?: {NUMBER})*")
GOOD = ("moor 0 here", "moor 9999999999999 there", "leave 0", "leave 24", "cross 0", "cross 1000000000000", "sail 0",
        "sail 0 0 1 7", "dredge here 0", "dredge there 1000000000000", "undo", "standing", "may", "movers", "most",
        "least", "far", "far 0", "far 0 1 5", "far 9999999999999", "sea")
BAD = ("basins 1 2", "basins", "basins 1", "moor", "moor 0", "moor here", "moor here 0", "moor 0 Here", "moor 0 her",
       "moor 0 here there", "moor 00 here", "moor 01 here", "moor -1 here", "moor +1 here", "moor 1.0 here",
       "moor 10000000000000 here", "moor  0 here", "moor 0  here", "moor 0 here ", " moor 0 here", "Moor 0 here",
       "moor x here", "moor 0 0", "leave", "leave -1", "leave 0 1", "leave x", "leave 007", "leave ", "leaves 0",
       "leave -",
       "cross", "cross 0 1", "cross -", "cross -1", "cross 10000000000000", "cross  0", "cross 0 ", "cross0",
       "sail", "sail ", "sail -", "sail 0  1", "sail 0 x", "sail 0,1", "sail 0 01", "sail -1", "sail 0 10000000000000",
       "dredge", "dredge here", "dredge 0", "dredge 0 here", "dredge here -1", "dredge both 1", "dredge here 1 2",
       "dredge here 00", "dredge there  1", "undo 1", "undo ", " undo", "UNDO", "undo undo", "standing 0", "standing -",
       "may 0", "may_go", "movers 1", "most here", "least 0", "sea 0", "sea -", "far -", "far 1 0", "far 0 0",
       "far 0 2 2", "far 2 1 0", "far 00", "far ", "far 0 ", "far  0", "far x", "far -1", "far 10000000000000",
       " ", "  ", "-", "0", "log", "twin", "deeds", "crossings", "as_of 0", "done", "yes", "~", "#", ":")


def texts_of(numbers):
    return " ".join(str(number) for number in numbers) or "-"


def far_by_words(kept, other):
    if not kept.ships:
        return "-"
    if any(ship >= len(kept.ships) for ship in other):
        return "refused NoShip"
    far = far_by_going(kept.sea(), kept.standing())
    if other in far:
        return str(far[other])
    return "bar " + bar_of(kept.sea(), kept.standing(), other)[0]


def ask_by_words(kept, word, numbers):
    told = kept.asks()
    if word == "far":
        return far_by_words(kept, tuple(numbers))
    if word in ("standing", "may", "movers"):
        return texts_of(told["may_go" if word == "may" else word])
    if not kept.ships:
        return "-"
    if word == "sea":
        here, there, draughts = told["sea"]
        return f"{here} {there} : {texts_of(draughts)}"
    lot = lot_by_going(kept.sea(), kept.standing())
    return str(lot.most if word == "most" else lot.least)


def deed_of(words):
    """The deed that a row tells, as a harbour takes it."""
    told = [int(word) if word.isdigit() else word for word in words[1:]]
    return (words[0], told) if words[0] == "sail" else (words[0], *told)


def answers_by_words(text):
    """All answers, each row's deeds done anew from the first."""
    rows = [row.split(" ") for row in text.split("\n") if row]
    depths, done, told = [int(word) for word in rows[0][1:]], [], []
    for words in rows[1:]:
        kept = kept_after(depths, done)
        if words[0] == "undo":
            told.append("yes" if done else "no")
            done = done[:-1]
        elif words[0] in ("moor", "leave", "cross", "sail", "dredge"):
            outcome = kept.do(*deed_of(words))
            if isinstance(outcome, tuple):
                told.append(f"refused {outcome[0].__name__}")
            else:
                told.append("done" if outcome is None else str(outcome))
                done = done + [deed_of(words)]
        else:
            told.append(ask_by_words(kept, words[0], [int(word) for word in words[1:]]))
    return told


def is_so_written(row):
    """Whether a row behind the first is so written, word by word."""
    if not FORMS.fullmatch(row):
        return False
    words = row.split(" ")
    if words[0] != "far":
        return True
    ships = [int(word) for word in words[1:]]
    return ships == sorted(set(ships))


def bad_row_by_words(text):
    """The number of the row that is refused, or None."""
    rows = text.split("\n")
    first = None
    for number, row in enumerate(rows):
        if not row:
            continue
        if first is None:
            first = number
            if not BASINS.fullmatch(row):
                return number
        elif not is_so_written(row):
            return number
    return len(rows) if first is None else None


def some_row(rnd, ships):
    """Some row, mostly of ships that there may be."""
    ship = rnd.randint(0, ships)
    side = rnd.choice(("here", "there"))
    rising = " ".join(str(mate) for mate in range(ships + rnd.choice((0, 0, 1))) if rnd.random() < 0.5)
    return rnd.choice((f"moor {rnd.randint(0, 4)} {side}", f"moor {rnd.randint(0, 2)} {side}", f"leave {ship}",
                       f"cross {ship}", f"cross {ship}", f"sail {ship} {rnd.randint(0, ships)}", f"dredge {side} 1",
                       "undo", "standing", "may", "movers", "most", "least", "sea", "far", f"far {rising}".rstrip(),
                       f"far {rising}".rstrip(), ""))


class WrittenOutTests(unittest.TestCase):
    def check(self, rows, wanted):
        text = "\n".join(rows)
        self.assertEqual(answers(text), wanted)
        self.assertEqual(answers_by_words(text), wanted)

    def test_all_deeds_and_asks(self):
        self.check(("basins 0 2", "moor 0 there", "moor 0 there", "moor 2 here", "standing", "may", "movers", "most",
                    "least", "far", "far 2", "far 0 1 2", "sea", "cross 2", "cross 0", "sail 1 2 1 0", "standing",
                    "undo", "standing", "dredge there 5", "sea", "leave 1", "sea", "standing"),
                   ["0", "1", "2", "2", "0 1", "0 1 2", "3", "0", "5", "0", "2", "0 2 : 0 0 2", "refused MayNot",
                    "done", "done", "-", "yes", "0 2", "done", "0 7 : 0 0 2", "done", "0 7 : 0 2", "0 1"])

    def test_nothing_to_tell(self):
        self.check(("basins 3 4", "standing", "may", "movers", "most", "least", "sea", "far", "far 0", "far 3 9",
                    "undo", "undo"), ["-"] * 9 + ["no", "no"])
        self.check(("basins 0 0", "moor 1 there", "standing", "may", "movers", "most", "least", "sea", "far",
                    "far 1"), ["0", "-", "-", "-", "0", "0", "0 0 : 1", "0", "refused NoShip"])

    def test_bars(self):
        self.check(("basins 0 9", "moor 1 there", "moor 1 there", "far 0"), ["0", "1", "bar low"])
        self.check(("basins 9 0", "moor 1 here", "moor 1 here", "far 0"), ["0", "1", "bar high"])
        # Which bar it is isn't promised here, but that the desk tells of the same one.
        bar = bar_of((0, 0, (0, 5)), (), (1,))
        self.check(("basins 0 0", "moor 0 there", "moor 5 there", "far 1"), ["0", "1", f"bar {bar[0]}"])

    def test_refused(self):
        self.check(("basins 0 0", "cross 0", "leave 0", "sail 0", "moor 1 here", "cross 0", "sail 0", "sail 1 0",
                    "sail 0 1", "leave 1", "cross 7", "far 1", "far 0 1", "undo", "undo"),
                   ["refused NoShip", "refused NoShip", "refused NoShip", "0", "refused MayNot", "refused MayNot",
                    "refused NoShip", "refused MayNot", "refused NoShip", "refused NoShip", "refused NoShip",
                    "refused NoShip", "yes", "no"])

    def test_a_twenty_fifth_ship(self):
        rows = ["basins 0 0"] + ["moor 5 here"] * 26 + ["leave 3", "moor 1 there", "moor 1 there", "undo", "undo"]
        wanted = [str(ship) for ship in range(24)] + ["refused Full"] * 2 + ["done", "23", "refused Full", "yes", "yes"]
        self.assertEqual(answers("\n".join(rows)), wanted)

    def test_only_basins(self):
        self.assertEqual(answers("basins 0 0"), [])
        self.assertEqual(answers("basins 9999999999999 1000000000000\n"), [])
        self.assertEqual(answers("\n\nbasins 0 0\n\n"), [])

    def test_empty_rows_are_passed_over(self):
        self.assertEqual(answers("\nbasins 0 0\n\n\nmoor 0 here\n\nmost\n"), ["0", "1"])

    def test_great_numbers(self):
        self.check(("basins 9999999999999 1000000000000", "moor 9999999999999 here", "sea", "cross 9999999999999"),
                   ["0", "9999999999999 1000000000000 : 9999999999999", "refused NoShip"])
        self.check(("basins 0 0", "dredge here 1000000000000", "moor 0 there", "sea", "far 9999999999999"),
                   ["done", "0", f"{BIG} 0 : 0", "refused NoShip"])

    def test_sixty_rows(self):
        rows = ["basins 2 2"] + ["moor 2 here"] * 24 + ["sail " + " ".join(["0"] * 97)] + ["movers"] * 34
        told = answers("\n".join(rows))
        self.assertEqual(len(told), 59)
        self.assertEqual(told[24], "done")
        self.assertEqual(told[25:], [" ".join(str(ship) for ship in range(24))] * 34)


class BadRowTests(unittest.TestCase):
    def check_bad(self, text, row):
        self.assertEqual(bad_row_by_words(text), row, text)
        with self.assertRaises(BadRow) as caught:
            answers(text)
        self.assertIs(type(caught.exception), BadRow)
        self.assertEqual(vars(caught.exception), {"row": row}, text)

    def test_empty_ones_alone(self):
        self.check_bad("", 1)
        self.check_bad("\n", 2)
        self.check_bad("\n\n\n", 4)

    def test_each_form(self):
        for row in BAD:
            self.check_bad("basins 1 2\n" + row, 1)
            self.check_bad("\nbasins 1 2\n\nmoor 0 here\n" + row + "\nmost\n", 4)
            self.check_bad("basins 1 2\ncross 5\nmoor 1 there\n" + row + "\n" + BAD[0], 3)

    def test_good_ones_are_not_refused(self):
        for row in GOOD:
            self.assertTrue(is_so_written(row), row)
            for ahead in ("basins 1 2\n", "basins 1 2\nmoor 0 here\nmoor 3 there\n"):
                self.assertEqual(answers(ahead + row), answers_by_words(ahead + row), row)

    def test_the_first_is_not_basins(self):
        for row in GOOD + tuple(row for row in BAD if row != "basins 1 2"):
            self.check_bad(row, 0)
            self.check_bad(row + "\nbasins 1 2", 0)
            self.check_bad("\n\n" + row + "\nbasins 1 2\n~", 2)

    def test_basins_not_so_written(self):
        for row in ("basins", "basins 1", "basins 1 2 3", "basins  1 2", "basins 1  2", "basins 1 2 ", " basins 1 2",
                    "basins 01 2", "basins 1 00", "basins -1 2", "basins 1 x", "basins here there", "Basins 1 2",
                    "basins 10000000000000 1", "basins 1 10000000000000", "basin 1 2", "basins 1,2", "basins 1 2:"):
            self.check_bad(row, 0)
            self.check_bad("\n" + row + "\nbasins 1 2", 1)

    def test_a_second_basins(self):
        self.check_bad("basins 1 2\nbasins 1 2", 1)
        self.check_bad("basins 1 2\nmost\n\nbasins 1 2\nx", 3)

    def test_the_first_of_several(self):
        self.check_bad("basins 1 2\nundo\nx\ny", 2)
        self.check_bad("x\ny", 0)

    def test_a_sign_otherwise(self):
        rnd = random.Random(5)
        signs = " 0123456789-:abefhimnorstuvx~\n"
        for _ in range(6000):
            rows = ["basins 1 2", *(rnd.choice(GOOD) for _ in range(rnd.randint(0, 3)))]
            text = "\n".join(rows)
            place = rnd.randint(0, len(text))
            text = text[:place] + rnd.choice(signs) + text[place + rnd.randint(0, 1):]
            bad = bad_row_by_words(text)
            if bad is None:
                self.assertEqual(len(answers(text)), len([row for row in text.split("\n") if row]) - 1)
            else:
                self.check_bad(text, bad)


class AsDoneAnewTests(unittest.TestCase):
    def test_sheets(self):
        rnd = random.Random(7)
        seen = set()
        for _ in range(250):
            rows = [f"basins {rnd.randint(0, 3)} {rnd.randint(0, 3)}"]
            rows += [some_row(rnd, 3) for _ in range(rnd.randint(0, 25))]
            text = "\n".join(rows)
            wanted = answers_by_words(text)
            self.assertEqual(answers(text), wanted, text)
            seen |= set(wanted)
        self.assertLessEqual({"-", "done", "yes", "no", "refused NoShip", "refused MayNot", "bar low", "bar high",
                              "bar fast", "0", "1", "2", "3"}, seen)

    def test_asked_again(self):
        text = "basins 0 2\nmoor 0 there\nfar 0\nundo\nsea"
        first = answers(text)
        kept = list(first)
        first.append("spoilt")
        self.assertEqual(answers(text), kept)
        self.assertIsNot(answers(text), answers(text))


class HandingInTests(unittest.TestCase):
    def test_all(self):
        for text in ("basins 0 2\nmoor 0 there\nmay", "", "basins 0 0", "x"):
            check_handing(self, answers, text=text)

    def test_kinds(self):
        told = answers("basins 0 2\nmoor 0 there\nmay\nmost\nsea\nundo")
        self.assertIs(type(told), list)
        self.assertTrue(all(type(answer) is str for answer in told))
        self.assertIs(type(answers("basins 0 0")), list)


if __name__ == "__main__":
    unittest.main()
