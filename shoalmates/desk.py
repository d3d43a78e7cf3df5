"""A desk: rows of deeds and asks of a harbour, answered row by row."""

from shoalmates.bars import bar_of
from shoalmates.dredging import HERE, THERE
from shoalmates.errors import BadRow, Full, MayNot, NoShip
from shoalmates.far import how_far
from shoalmates.harbour import Harbour, check_ship
from shoalmates.kinds import are_rising
from shoalmates.reach import least_here, most_here
from shoalmates.texts import is_number_word, numbers_in, sea_text, standing_text

BASINS = "basins"
DONE = "done"
NOTHING = "-"


def is_nothing(words):
    """Tell whether nothing stands behind the row's first word."""
    return len(words) == 0


def is_number_alone(words):
    """Tell whether one number stands there."""
    return len(words) == 1 and is_number_word(words[0])


def is_two_numbers(words):
    """Tell whether two numbers stand there."""
    return len(words) == 2 and numbers_in(words) is not None


def is_some_numbers(words):
    """Tell whether one number or more stand there."""
    return len(words) > 0 and numbers_in(words) is not None


def is_rising_numbers(words):
    """Tell whether numbers that rise stand there, or nothing."""
    numbers = numbers_in(words)
    return numbers is not None and are_rising(numbers)


def is_number_and_side(words):
    """Tell whether a number and a side stand there."""
    return len(words) == 2 and is_number_word(words[0]) and words[1] in (HERE, THERE)


def is_side_and_number(words):
    """Tell whether a side and a number stand there."""
    return is_number_and_side(words[::-1])


FORMS = {
    "moor": is_number_and_side,
    "leave": is_number_alone,
    "cross": is_number_alone,
    "sail": is_some_numbers,
    "dredge": is_side_and_number,
    "undo": is_nothing,
    "standing": is_nothing,
    "may": is_nothing,
    "movers": is_nothing,
    "most": is_nothing,
    "least": is_nothing,
    "far": is_rising_numbers,
    "sea": is_nothing,
}


def moor_row(harbour, words):
    """Answer `moor D SIDE`."""
    return str(harbour.moor(int(words[0]), words[1]))


def leave_row(harbour, words):
    """Answer `leave N`."""
    harbour.leave(int(words[0]))
    return DONE


def cross_row(harbour, words):
    """Answer `cross N`."""
    harbour.cross(int(words[0]))
    return DONE


def sail_row(harbour, words):
    """Answer `sail N ..`."""
    harbour.sail(numbers_in(words))
    return DONE


def dredge_row(harbour, words):
    """Answer `dredge SIDE N`."""
    harbour.dredge(words[0], int(words[1]))
    return DONE


def undo_row(harbour, words):
    """Answer `undo`."""
    return "yes" if harbour.undo() else "no"


def standing_row(harbour, words):
    """Answer `standing`."""
    return standing_text(harbour.standing())


def may_row(harbour, words):
    """Answer `may`."""
    return standing_text(harbour.may_go())


def movers_row(harbour, words):
    """Answer `movers`."""
    return standing_text(harbour.movers())


def most_row(harbour, words):
    """Answer `most`."""
    return str(most_here(harbour.sea(), harbour.standing())) if len(harbour) > 0 else NOTHING


def least_row(harbour, words):
    """Answer `least`."""
    return str(least_here(harbour.sea(), harbour.standing())) if len(harbour) > 0 else NOTHING


def far_row(harbour, words):
    """Answer `far N ..`."""
    if len(harbour) == 0:
        return NOTHING
    sea = harbour.sea()
    other = numbers_in(words)
    for ship in other:
        check_ship(sea, ship)
    bar = bar_of(sea, harbour.standing(), other)
    if bar is not None:
        return f"bar {bar[0]}"
    return str(how_far(sea, harbour.standing(), other))


def sea_row(harbour, words):
    """Answer `sea`."""
    return sea_text(harbour.sea()) if len(harbour) > 0 else NOTHING


ACTIONS = {
    "moor": moor_row,
    "leave": leave_row,
    "cross": cross_row,
    "sail": sail_row,
    "dredge": dredge_row,
    "undo": undo_row,
    "standing": standing_row,
    "may": may_row,
    "movers": movers_row,
    "most": most_row,
    "least": least_row,
    "far": far_row,
    "sea": sea_row,
}


def is_so_written(words):
    """Tell whether a row's words are a deed or an ask."""
    if words[0] not in FORMS:
        return False
    has_form = FORMS[words[0]]
    return has_form(words[1:])


def is_basins(words):
    """Tell whether a row's words tell the basins."""
    return words[0] == BASINS and is_two_numbers(words[1:])


def written_rows(text):
    """Tell the list of the words of all rows that aren't empty, or refuse the first bad one."""
    rows = text.split("\n")
    written = []
    for number, row in enumerate(rows):
        if row == "":
            continue
        words = row.split(" ")
        so_written = is_so_written(words) if len(written) > 0 else is_basins(words)
        if not so_written:
            raise BadRow(number)
        written.append(words)
    if len(written) == 0:
        raise BadRow(len(rows))
    return written


def answer(harbour, words):
    """Answer a row, or tell who refuses it."""
    action = ACTIONS[words[0]]
    try:
        return action(harbour, words[1:])
    except Full:
        return "refused Full"
    except NoShip:
        return "refused NoShip"
    except MayNot:
        return "refused MayNot"


def answers(text):
    """Tell the list of the answers to all rows behind the basins, or refuse it with BadRow."""
    rows = written_rows(text)
    here, there = numbers_in(rows[0][1:])
    harbour = Harbour(here, there)
    told = []
    for words in rows[1:]:
        told.append(answer(harbour, words))
    return told
