"""Seas and standings: what is one, and the same from the other side."""

from shoalmates.kinds import are_rising, is_number, is_tuple_of


def is_sea(thing):
    """Tell whether a thing is a sea."""
    if not is_tuple_of(thing, 3):
        return False
    here, there, draughts = thing
    if not (is_number(here) and is_number(there) and isinstance(draughts, tuple)):
        return False
    return len(draughts) > 0 and all([is_number(draught) for draught in draughts])


def is_place(sea, thing):
    """Tell whether a thing is a number below that of the ships: a ship of the sea, or a step."""
    return is_number(thing) and thing < len(sea[2])


def is_standing(sea, thing):
    """Tell whether a thing is a standing of the sea."""
    if not isinstance(thing, tuple):
        return False
    return all([is_place(sea, ship) for ship in thing]) and are_rising(thing)


def other_side(sea, standing):
    """Tell the rising tuple of those that lie there."""
    draughts = sea[2]
    return tuple([ship for ship in range(len(draughts)) if ship not in standing])


def turned_sea(sea):
    """Tell the sea with here and there exchanged."""
    here, there, draughts = sea
    return (there, here, tuple(draughts))
