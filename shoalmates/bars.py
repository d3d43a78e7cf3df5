"""Bars: what shows that the one standing doesn't come to the other."""

from shoalmates.kinds import is_tuple_of
from shoalmates.lots import HIGH, LOW, fleet_of, lot_of
from shoalmates.reach import comes_to
from shoalmates.seas import is_place, is_standing
from shoalmates.steps import goers_at, mark_at, top_step


def filled(sea, standing, step):
    """Tell the standing with all goers at the step put to it."""
    return tuple(sorted(set(standing) | set(goers_at(sea, step))))


def emptied(sea, standing, step):
    """Tell the standing with all goers at the step taken from it."""
    return tuple(sorted(set(standing) - set(goers_at(sea, step))))


def lies_under(sea, standing, step, full):
    """Tell whether a standing lies under the low bar of the step."""
    return len(standing) <= step and filled(sea, standing, step) == full


def lies_above(sea, standing, step, left):
    """Tell whether a standing lies above the high bar of the step."""
    return len(standing) > step and emptied(sea, standing, step) == left


def shows_low(sea, one, other, step, full):
    """Tell whether ("low", step, full) is a bar between them."""
    if not (is_place(sea, step) and is_standing(sea, full)):
        return False
    mark = mark_at(sea, step)
    if any([mark_at(sea, earlier) > mark for earlier in range(step)]):
        return False
    if len(full) != step or filled(sea, full, step) != full:
        return False
    return lies_under(sea, one, step, full) != lies_under(sea, other, step, full)


def shows_high(sea, one, other, step, left):
    """Tell whether ("high", step, left) is a bar between them."""
    if not (is_place(sea, step) and is_standing(sea, left)):
        return False
    mark = mark_at(sea, step)
    if any([mark_at(sea, later) > mark for later in range(step + 1, len(sea[2]))]):
        return False
    if len(left) != step + 1 or emptied(sea, left, step) != left:
        return False
    return lies_above(sea, one, step, left) != lies_above(sea, other, step, left)


def shows_fast(sea, one, other, ship):
    """Tell whether ("fast", ship) is a bar between them."""
    if not is_place(sea, ship):
        return False
    too_deep = sea[2][ship] > mark_at(sea, top_step(sea))
    return too_deep and (ship in one) != (ship in other)


def shows_bar(sea, one, other, thing):
    """Tell whether a thing is a bar between the two standings."""
    if is_tuple_of(thing, 2):
        word, ship = thing
        return word == "fast" and shows_fast(sea, one, other, ship)
    if not is_tuple_of(thing, 3):
        return False
    word, step, ships = thing
    if word == "low":
        return shows_low(sea, one, other, step, ships)
    if word == "high":
        return shows_high(sea, one, other, step, ships)
    return False


def bars_round(sea, standing):
    """Tell the list of the bars that part a standing's lot from others."""
    kind, step = lot_of(fleet_of(sea, standing))
    if kind == LOW:
        return [("low", step, filled(sea, standing, step))]
    if kind == HIGH:
        return [("high", step, emptied(sea, standing, step))]
    goers = goers_at(sea, step)
    return [("fast", ship) for ship in range(len(sea[2])) if ship not in goers]


def bar_of(sea, one, other):
    """Tell a bar between the two standings, or None where one comes to other."""
    if comes_to(sea, one, other):
        return None
    # Where both lots stop on the same side, the one that stops sooner may lie within the
    # other's bar, so each is looked at.
    bars = bars_round(sea, one) + bars_round(sea, other)
    shown = [bar for bar in bars if shows_bar(sea, one, other, bar)]
    return shown[0]
