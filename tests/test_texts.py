"""Point [17], as far as it tells of texts.py: texts of seas and standings."""

import random
import re
import unittest

from going import standings_of
from handing import check_handing, outcome
from sample_seas import BIG, small_seas
from shoalmates.errors import BadText
from shoalmates.texts import sea_in, sea_text, standing_in, standing_text

NUMBER = "(?:0|[1-9][0-9]{0,12})"
SEA = re.compile(f"({NUMBER}) ({NUMBER}) :((?: {NUMBER})+)")
SHIPS = re.compile(f"{NUMBER}(?: {NUMBER})*")
SIGNS = " 0123456789:-+_.,;abzAZ~!()[]\"'"
MOST = 10 ** 13 - 1
SEAS = ((0, 0, (0,)), (1, 3, (0, 7, 2, 2)), (10, 200, (3000,)), (BIG, BIG - 1, (BIG, 0, 5)),
        (MOST, 10 ** 12 + 1, (MOST, 9)), (0, 5, tuple(range(24))), (7, 8, (10 ** 12,) * 24))
TEXTS = ("0 0 : 0", "1 3 : 0 7 2 2", "10 200 : 3000", "9999999999999 0 : 1000000000000 12")


def sea_by_words(text):
    """The sea that the text tells, or None."""
    found = SEA.fullmatch(text)
    if found is None:
        return None
    return (int(found[1]), int(found[2]), tuple(int(word) for word in found[3].split()))


def standing_by_words(sea, text):
    """The standing that the text tells, or None."""
    if text == "-":
        return ()
    if SHIPS.fullmatch(text) is None:
        return None
    ships = tuple(int(word) for word in text.split())
    rising = list(ships) == sorted(set(ships))
    return ships if rising and ships[-1] < len(sea[2]) else None


def one_sign_otherwise(text, seed):
    """Texts with one sign or two otherwise, out, twice, exchanged."""
    rnd = random.Random(seed)
    for place in range(len(text) + 1):
        for sign in SIGNS:
            yield text[:place] + sign + text[place:]
            yield text[:place] + sign + text[place + 1:]
        yield text[:place] + text[place + 1:]
        yield text[:place] + text[place:place + 1] * 2 + text[place + 1:]
        yield text[:place] + text[place:place + 2][::-1] + text[place + 2:]
        yield text[:place]
        yield text[place:]
    for _ in range(300):
        signs = list(text) + [rnd.choice(SIGNS)]
        for _ in range(2):
            signs[rnd.randrange(len(signs))] = rnd.choice(SIGNS)
        yield "".join(signs)


def one_word_otherwise(text):
    """Texts with one word otherwise, out, twice, exchanged."""
    words = text.split(" ")
    for place in range(len(words) + 1):
        yield " ".join(words[:place] + words[place + 1:])
        yield " ".join(words[:place] + words[place:place + 1] * 2 + words[place + 1:])
        yield " ".join(words[:place] + words[place:place + 2][::-1] + words[place + 2:])
        for word in ("", "0", "00", "01", "-", ":", "::", "-1", "+1", "1.0", "1_0", "x", "23", "24",
                     "1" * 13, "1" * 14, "0" * 13, "9" * 13, "9" * 40):
            yield " ".join(words[:place] + [word] + words[place:])
            yield " ".join(words[:place] + [word] + words[place + 1:])


def strange_signs(text):
    """Texts with signs that aren't plain figures and blanks, though they look like these."""
    for place in range(len(text) + 1):
        for sign in ("\n", "\t", "\r", "\u00a0", "\u0660", "\u0663", "\u00b2", "\uff11", "\u2460", "\x00", "\x1f"):
            yield text[:place] + sign + text[place:]
            yield text[:place] + sign + text[place + 1:]


class WrittenOutTests(unittest.TestCase):
    def test_sea_text(self):
        self.assertEqual(sea_text((0, 0, (0,))), "0 0 : 0")
        self.assertEqual(sea_text((1, 3, (0, 7, 2, 2))), "1 3 : 0 7 2 2")
        self.assertEqual(sea_text((BIG, MOST, (10, BIG))), "1000000000000 9999999999999 : 10 1000000000000")
        self.assertEqual(sea_text([1, 3, [0, 7]]), "1 3 : 0 7")

    def test_standing_text(self):
        self.assertEqual(standing_text(()), "-")
        self.assertEqual(standing_text([]), "-")
        self.assertEqual(standing_text((0,)), "0")
        self.assertEqual(standing_text((0, 2, 13)), "0 2 13")
        self.assertEqual(standing_text(tuple(range(24))), " ".join(str(ship) for ship in range(24)))

    def test_sea_in(self):
        self.assertEqual(sea_in("0 0 : 0"), (0, 0, (0,)))
        self.assertEqual(sea_in("1 3 : 0 7 2 2"), (1, 3, (0, 7, 2, 2)))
        self.assertEqual(sea_in("9999999999999 0 : 9999999999999"), (MOST, 0, (MOST,)))

    def test_standing_in(self):
        sea = (1, 3, (0, 7, 2, 2))
        self.assertEqual(standing_in(sea, "-"), ())
        self.assertEqual(standing_in(sea, "0"), (0,))
        self.assertEqual(standing_in(sea, "0 1 2 3"), (0, 1, 2, 3))

    def test_bad_seas(self):
        for text in ("", " ", "0", "0 0", "0 0 :", "0 0 : ", "0 0 :0", "0 0: 0", " 0 0 : 0", "0 0 : 0 ",
                     "0  0 : 0", "0 0  : 0", "0 0 :  0", "0 0 : 0  0", "00 0 : 0", "0 01 : 0", "0 0 : 00",
                     "-1 0 : 0", "0 0 : -1", "0 0 : +1", "0 0 - 0", "0 : 0 0", ": 0 0 0", "0 0 0 : 0",
                     "0 0 0", "0 0 : 0 : 0", "0 0 : :", "a 0 : 0", "0 0 : 1.5", "0 0 : 1_0", "0 0 : 0\n",
                     "\n0 0 : 0", "0\n0 : 0", "0\t0 : 0", "10000000000000 0 : 0", "0 10000000000000 : 0",
                     "0 0 : 10000000000000", "0 0 : -", "-", "0 0 : \u0660", "\u0661 0 : 0", "0 0 : \u00b2"):
            self.assertEqual(outcome(sea_in, text), ("refused", BadText, {"text": text}), text)

    def test_bad_standings(self):
        sea = (1, 3, (0, 7, 2, 2))
        for text in ("", " ", " 0", "0 ", "0  1", "00", "01", "0 01", "4", "0 4", "-1", "1 0", "0 0", "0 2 1",
                     "- ", " -", "- -", "--", "- 0", "0 -", "+1", "0,1", "0\n1", "0\n", "a", "0 a", "1_0", "1.0",
                     "10000000000000", "9999999999999", "\u0660", "0 \u0661", "\u00b9", "0 1 2 3 4", ":"):
            self.assertEqual(outcome(standing_in, sea, text), ("refused", BadText, {"text": text}), text)

    def test_ships_that_are_not_there(self):
        for many in (1, 2, 9, 10, 11, 24, 60):
            sea = (0, 0, (0,) * many)
            self.assertEqual(standing_in(sea, str(many - 1)), (many - 1,))
            self.assertEqual(outcome(standing_in, sea, str(many)), ("refused", BadText, {"text": str(many)}))


class ThereAndBackTests(unittest.TestCase):
    def test_seas(self):
        for sea in list(small_seas()) + list(SEAS):
            text = sea_text(sea)
            self.assertIs(type(text), str)
            self.assertEqual(sea_in(text), sea)
            self.assertEqual(sea_by_words(text), sea)

    def test_standings(self):
        for sea in list(small_seas())[::30] + [(0, 0, (0,) * 8)]:
            for standing in standings_of(sea):
                text = standing_text(standing)
                self.assertIs(type(text), str)
                self.assertEqual(standing_in(sea, text), standing)
                self.assertEqual(standing_by_words(sea, text), standing)

    def test_long_ones(self):
        sea = (MOST, MOST, (MOST,) * 60)
        self.assertEqual(sea_in(sea_text(sea)), sea)
        self.assertEqual(standing_in(sea, standing_text(range(60))), tuple(range(60)))
        bad = "9" * 200
        self.assertEqual(outcome(sea_in, bad), ("refused", BadText, {"text": bad}))
        self.assertEqual(outcome(standing_in, sea, bad), ("refused", BadText, {"text": bad}))


class OtherwiseTests(unittest.TestCase):
    def check_sea(self, text):
        wanted = sea_by_words(text)
        if wanted is None:
            self.assertEqual(outcome(sea_in, text), ("refused", BadText, {"text": text}), text)
        else:
            self.assertEqual(sea_in(text), wanted, text)
            self.assertEqual(sea_text(wanted), text)

    def check_standing(self, sea, text):
        wanted = standing_by_words(sea, text)
        if wanted is None:
            self.assertEqual(outcome(standing_in, sea, text), ("refused", BadText, {"text": text}), text)
        else:
            self.assertEqual(standing_in(sea, text), wanted, text)
            self.assertEqual(standing_text(wanted), text)

    def test_seas(self):
        for seed, text in enumerate(TEXTS):
            for changed in one_sign_otherwise(text, seed):
                self.check_sea(changed)
            for changed in one_word_otherwise(text):
                self.check_sea(changed)
            for changed in strange_signs(text):
                self.check_sea(changed)

    def test_standings(self):
        for sea in ((0, 0, (0,)), (1, 3, (0, 7, 2, 2)), (0, 0, (0,) * 24)):
            for seed, text in enumerate(("-", "0", "0 1", "0 2 3", "1 12 23")):
                for changed in one_sign_otherwise(text, seed):
                    self.check_standing(sea, changed)
                for changed in one_word_otherwise(text):
                    self.check_standing(sea, changed)
                for changed in strange_signs(text):
                    self.check_standing(sea, changed)


class HandingInTests(unittest.TestCase):
    def test_all(self):
        for sea in SEAS:
            check_handing(self, sea_text, sea=sea)
            check_handing(self, sea_in, text=sea_text(sea))
            for text in ("-", "0", "", "1 0", "0 1"):
                check_handing(self, standing_in, sea=sea, text=text)
        for standing in ((), (0,), (0, 3, 5)):
            check_handing(self, standing_text, standing=standing)
        check_handing(self, sea_in, text="0 0")

    def test_kinds(self):
        told = sea_in("1 3 : 0 7")
        self.assertEqual((type(told), type(told[2])), (tuple, tuple))
        self.assertTrue(all(type(number) is int for number in told[:2] + told[2]))
        for text in ("-", "0 1"):
            standing = standing_in([1, 3, [0, 7]], text)
            self.assertIs(type(standing), tuple)
            self.assertTrue(all(type(ship) is int for ship in standing))

    def test_bad_text_is_a_value_error_with_its_text(self):
        with self.assertRaises(ValueError) as caught:
            sea_in("0 0 :")
        self.assertIs(type(caught.exception), BadText)
        self.assertEqual(caught.exception.text, "0 0 :")


if __name__ == "__main__":
    unittest.main()
