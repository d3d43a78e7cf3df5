"""Reach: how many can come to lie here, who can ever go over, which standing comes to which."""

from shoalmates.fleets import fleet_least, fleet_most
from shoalmates.lots import fleet_of, lot_of, moving_mark
from shoalmates.steps import mark_at


def most_here(sea, standing):
    """Tell the greatest number of ships that lie here in any standing that this one comes to."""
    return fleet_most(fleet_of(sea, standing))


def least_here(sea, standing):
    """Tell the least number of ships that lie here in any standing that this one comes to."""
    return fleet_least(fleet_of(sea, standing))


def movers_of(sea, standing):
    """Tell the rising list of all ships that go over in some row from the standing."""
    fleet = fleet_of(sea, standing)
    mark = moving_mark(fleet, lot_of(fleet))
    if mark is None:
        return []
    return [ship for ship, draught in enumerate(sea[2]) if draught <= mark]


def comes_to(sea, one, other):
    """Tell whether the standing one comes to other."""
    lot = lot_of(fleet_of(sea, one))
    if lot_of(fleet_of(sea, other)) != lot:
        return False
    mark = mark_at(sea, lot[1])
    # Those that don't go at the lot's step lie fast for ever; all others of a lot come anywhere.
    return fast_ones(sea, one, mark) == fast_ones(sea, other, mark)


def fast_ones(sea, standing, mark):
    """Tell the list of those that lie here and whose draught is greater than the mark."""
    draughts = sea[2]
    return [ship for ship in standing if draughts[ship] > mark]
