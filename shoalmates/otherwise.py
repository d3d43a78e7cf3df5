"""Seas told otherwise: ships numbered anew, or one of them sunk."""

from shoalmates.dredging import HERE, THERE, deepened


def renumbered(sea, order):
    """Tell the sea whose ship 0 is the first of the order, and so on."""
    here, there, draughts = sea
    return (here, there, tuple([draughts[ship] for ship in order]))


def renumbered_standing(order, standing):
    """Tell the same standing by the new numbers."""
    return tuple([place for place, ship in enumerate(order) if ship in standing])


def without_ship(sea, standing, ship):
    """Tell the pair (sea, standing) of the others, those behind the ship in number one less."""
    draughts = sea[2]
    order = [mate for mate in range(len(draughts)) if mate != ship]
    return (renumbered(sea, order), renumbered_standing(order, standing))


def sunk(sea, standing, ship):
    """Tell the pair (sea, standing) of the others, that ship now a part of its basin's water."""
    left, lying = without_ship(sea, standing, ship)
    return (deepened(left, HERE if ship in standing else THERE, 1), lying)
