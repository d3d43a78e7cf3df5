"""Counting: how many standings come to one another, and how many such lots there are."""

from shoalmates.lots import HIGH, LOW, fixed_ones, fleet_of, goers_many, lot_of
from shoalmates.lots import ships_many, top_in, turned_fleet, turned_lot


def ways_to_take(many, taken):
    """Tell in how many ways so many can be taken out of many."""
    if taken < 0 or taken > many:
        return 0
    ways = 1
    for place in range(taken):
        ways = ways * (many - place) // (place + 1)
    return ways


def with_more(ways, many):
    """Tell the ways by how many are taken, where some of many more may be taken, too."""
    longer = [0] * (len(ways) + many)
    for taken, number in enumerate(ways):
        for more in range(many + 1):
            longer[taken + more] += number * ways_to_take(many, more)
    return longer


def ways_below(fleet, lot):
    """Tell how many standings of the fleet's lot have no more ships here than its step."""
    step = lot[1]
    fixed = sum(fixed_ones(fleet, lot))
    # Goers are taken by the step from which on they are goers, those of the last step first.
    # So those taken by then are no goers at an earlier step, and keep it from being a stop:
    # with them, the fixed ones and all its goers more than the step must lie here.
    ways = [1]
    goers = goers_many(fleet, step)
    for earlier in reversed(range(step)):
        fewer = goers_many(fleet, earlier)
        ways = with_more(ways, goers - fewer)
        goers = fewer
        ways = [number if goers + fixed + taken > earlier else 0 for taken, number in enumerate(ways)]
    ways = with_more(ways, goers)
    return sum([number for taken, number in enumerate(ways) if fixed + taken <= step])


def family_size(sea, standing):
    """Tell how many standings the standing comes to, itself among them."""
    fleet = fleet_of(sea, standing)
    lot = lot_of(fleet)
    size = 0
    if lot[0] != HIGH:
        size += ways_below(fleet, lot)
    if lot[0] != LOW:
        size += ways_below(turned_fleet(fleet), turned_lot(fleet, lot))
    return size


def low_lots(fleet, top):
    """Tell how many lots stop at a step, top at most, at which all goers lie here."""
    many = ships_many(fleet)
    lots = 0
    for step in range(top + 1):
        goers = goers_many(fleet, step)
        lots += ways_to_take(many - goers, step - goers)
    return lots


def top_lots(fleet, top):
    """Tell how many lots have crossings at the top step: one for each lying of those too deep."""
    many = ships_many(fleet)
    goers = goers_many(fleet, top)
    # Some goer must be free to come at the top step, and some to leave behind it.
    fixed_here = [fixed for fixed in range(many - goers + 1) if fixed <= top < fixed + goers]
    return sum([ways_to_take(many - goers, fixed) for fixed in fixed_here])


def families_many(sea):
    """Tell how many lots of standings there are, each of all that come to one another."""
    fleet = fleet_of(sea, ())
    top = top_in(fleet)
    last = ships_many(fleet) - 1
    return low_lots(fleet, top) + top_lots(fleet, top) + low_lots(turned_fleet(fleet), last - top)
