"""Crossing: who is afloat, who may go over the bar, and what comes of it."""

from shoalmates.errors import MayNot
from shoalmates.steps import mark_at


def afloat_ones(sea, standing):
    """Tell the rising list of those that are afloat where they lie."""
    here, there, draughts = sea
    ours = len(standing)
    theirs = len(draughts) - ours
    # A ship is none of the others in its own basin.
    depth_here = here + ours - 1
    depth_there = there + theirs - 1
    return [ship for ship, draught in enumerate(draughts)
            if draught <= (depth_here if ship in standing else depth_there)]


def may_go(sea, standing, ship):
    """Tell whether the ship is afloat in its basin and would be so in the other one."""
    draughts = sea[2]
    step = len(standing) - 1 if ship in standing else len(standing)
    return draughts[ship] <= mark_at(sea, step)


def may_cross(sea, standing):
    """Tell the rising list of those that may go over."""
    draughts = sea[2]
    return [ship for ship in range(len(draughts)) if may_go(sea, standing, ship)]


def crossed(sea, standing, ship):
    """Tell the standing behind the ship's going over, or refuse it with MayNot."""
    if not may_go(sea, standing, ship):
        raise MayNot(ship)
    if ship in standing:
        return tuple([mate for mate in standing if mate != ship])
    return tuple(sorted([*standing, ship]))


def crossed_all(sea, standing, row):
    """Tell the standing behind all of the row, or refuse the first that may not with MayNot."""
    reached = tuple(standing)
    for ship in row:
        reached = crossed(sea, reached, ship)
    return reached
