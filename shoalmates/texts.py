"""Texts of seas and standings: words parted by one blank."""

from shoalmates.errors import BadText
from shoalmates.seas import is_standing

MOST_FIGURES = 13
NOBODY = "-"


def is_number_word(word):
    """Tell whether a word is a number in plain figures, no nought ahead but 0 itself."""
    if not (word.isascii() and word.isdigit() and len(word) <= MOST_FIGURES):
        return False
    return word == "0" or not word.startswith("0")


def numbers_in(words):
    """Tell the tuple of the numbers that the words are, or None where one is none."""
    if not all([is_number_word(word) for word in words]):
        return None
    return tuple([int(word) for word in words])


def words_of(numbers):
    """Tell the text of numbers, parted by one blank."""
    return " ".join([str(number) for number in numbers])


def sea_text(sea):
    """Tell the text of a sea."""
    here, there, draughts = sea
    return f"{here} {there} : {words_of(draughts)}"


def sea_in(text):
    """Tell the sea whose text it is, or refuse it with BadText."""
    words = text.split(" ")
    depths = numbers_in(words[:2])
    draughts = numbers_in(words[3:])
    if words[2:3] != [":"] or depths is None or not draughts:
        raise BadText(text)
    here, there = depths
    return (here, there, draughts)


def standing_text(standing):
    """Tell the text of a standing."""
    return words_of(standing) if len(standing) > 0 else NOBODY


def standing_in(sea, text):
    """Tell the standing whose text it is, or refuse it with BadText."""
    if text == NOBODY:
        return ()
    standing = numbers_in(text.split(" "))
    if standing is None or not is_standing(sea, standing):
        raise BadText(text)
    return standing
