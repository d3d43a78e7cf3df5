"""Fleets: many alike ships, told sort by sort."""

from shoalmates.kinds import are_rising, is_number, is_tuple_of
from shoalmates.lots import fixed_ones, least_in, lot_of, most_in, moving_mark


def is_sort(thing):
    """Tell whether a thing is a triple (draught, ours, theirs)."""
    return is_tuple_of(thing, 3) and all([is_number(part) for part in thing])


def is_fleet(thing):
    """Tell whether a thing is a fleet."""
    if not is_tuple_of(thing, 3):
        return False
    here, there, sorts = thing
    if not (is_number(here) and is_number(there) and isinstance(sorts, tuple)):
        return False
    if not all([is_sort(part) for part in sorts]):
        return False
    many = sum([ours + theirs for draught, ours, theirs in sorts])
    return many > 0 and are_rising([draught for draught, ours, theirs in sorts])


def sea_of(fleet):
    """Tell the pair (sea, standing) of a fleet, ship by ship."""
    here, there, sorts = fleet
    draughts = []
    standing = []
    for draught, ours, theirs in sorts:
        first = len(draughts)
        standing.extend(list(range(first, first + ours)))
        draughts.extend([draught] * (ours + theirs))
    return ((here, there, tuple(draughts)), tuple(standing))


def fleet_most(fleet):
    """Tell the greatest number of ships that can come to lie here."""
    return most_in(fleet, lot_of(fleet))


def fleet_least(fleet):
    """Tell the least number of ships that can come to lie here."""
    return least_in(fleet, lot_of(fleet))


def fleet_movers(fleet):
    """Tell the rising list of those draughts of which some ship goes over in some row."""
    mark = moving_mark(fleet, lot_of(fleet))
    if mark is None:
        return []
    return [draught for draught, ours, theirs in fleet[2] if draught <= mark and ours + theirs > 0]


def fleet_comes(one, other):
    """Tell whether the one's standing comes to the other's, ships of each sort numbered well."""
    lot = lot_of(one)
    if lot_of(other) != lot:
        return False
    return fixed_ones(one, lot) == fixed_ones(other, lot)
