"""Far: the fewest crossings from one standing to another that it comes to."""

from shoalmates.crossing import crossed, crossed_all, may_cross
from shoalmates.errors import Apart, MayNot
from shoalmates.lacks import lack_of
from shoalmates.reach import comes_to
from shoalmates.rows import cheapest_row, otherwise_ones
from shoalmates.seas import is_place


def how_far(sea, one, other):
    """Tell how many crossings lead from one to other at the fewest, or refuse it with Apart."""
    lack, paper = lack_of(sea, one, other)
    return len(otherwise_ones(one, other)) + 2 * lack


def nearer_ones(sea, one, other):
    """Tell the rising list of those behind whose going other is nearer, or refuse it with Apart."""
    far = how_far(sea, one, other)
    return [ship for ship in may_cross(sea, one) if how_far(sea, crossed(sea, one, ship), other) < far]


def row_to(sea, one, other):
    """Tell a row of the fewest crossings from one to other, or refuse it with Apart."""
    if not comes_to(sea, one, other):
        raise Apart()
    return cheapest_row(sea, one, other, [1] * len(sea[2]))


def leads_to(sea, one, other, row):
    """Tell whether a row of ships leads from one to other, none refused."""
    try:
        return crossed_all(sea, one, row) == tuple(other)
    except MayNot:
        return False


def shows_row(sea, one, other, thing):
    """Tell whether a thing is a row from one to other, and no fewer crossings lead there."""
    if not (isinstance(thing, list) and all([is_place(sea, ship) for ship in thing])):
        return False
    return leads_to(sea, one, other, thing) and len(thing) == how_far(sea, one, other)
