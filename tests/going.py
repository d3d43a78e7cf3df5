"""What the document's words say, found the long way: by counting others, and by going."""

import heapq
from itertools import combinations, product


def standings_of(sea):
    """All standings of a sea."""
    ships = range(len(sea[2]))
    return [standing for many in range(len(sea[2]) + 1) for standing in combinations(ships, many)]


def floats(sea, standing, ship, lies_here):
    """Whether the ship would float in that basin, the others of it counted one by one."""
    here, there, draughts = sea
    depth = here if lies_here else there
    for other in range(len(draughts)):
        if other != ship and (other in standing) == lies_here:
            depth += 1
    return draughts[ship] <= depth


def afloat_by_count(sea, standing):
    return [ship for ship in range(len(sea[2])) if floats(sea, standing, ship, ship in standing)]


def may_by_count(sea, standing):
    return [ship for ship in range(len(sea[2]))
            if floats(sea, standing, ship, True) and floats(sea, standing, ship, False)]


def gone_over(standing, ship):
    return tuple(sorted(set(standing) ^ {ship}))


class Lot:
    """All standings that come to one another, and all ships that go over between them."""

    def __init__(self, members, movers):
        self.members = members
        self.movers = movers
        self.most = max(len(standing) for standing in members)
        self.least = min(len(standing) for standing in members)


def lot_by_going(sea, standing):
    """The lot of one standing, by going through all crossings."""
    members, movers, waiting = {standing}, set(), [standing]
    while waiting:
        last = waiting.pop()
        for ship in may_by_count(sea, last):
            movers.add(ship)
            reached = gone_over(last, ship)
            if reached not in members:
                members.add(reached)
                waiting.append(reached)
    return Lot(members, sorted(movers))


def lots_by_going(sea):
    """All lots of a sea: a dict of each standing's lot."""
    lots = {}
    for standing in standings_of(sea):
        if standing not in lots:
            lot = lot_by_going(sea, standing)
            for member in lot.members:
                lots[member] = lot
    return lots


def counts_of(fleet):
    return tuple(ours for draught, ours, theirs in fleet[2])


def fleet_with(fleet, counts):
    """The fleet whose sorts have so many here, and the rest there."""
    here, there, sorts = fleet
    return (here, there, tuple((draught, many, ours + theirs - many)
                               for (draught, ours, theirs), many in zip(sorts, counts)))


def all_counts(fleet):
    return list(product(*(range(ours + theirs + 1) for draught, ours, theirs in fleet[2])))


def goings_of(fleet):
    """All (place of the sort, counts behind it) by one ship's going over."""
    here, there, sorts = fleet
    counts = list(counts_of(fleet))
    lie_here = sum(counts)
    lie_there = sum(theirs for draught, ours, theirs in sorts)
    for place, (draught, ours, theirs) in enumerate(sorts):
        if ours and draught <= here + lie_here - 1 and draught <= there + lie_there:
            yield place, tuple(counts[:place] + [ours - 1] + counts[place + 1:])
        if theirs and draught <= here + lie_here and draught <= there + lie_there - 1:
            yield place, tuple(counts[:place] + [ours + 1] + counts[place + 1:])


class FleetLot:
    """All counts that a fleet comes to, and the draughts that go over between them."""

    def __init__(self, fleet):
        first = counts_of(fleet)
        members, places, waiting = {first}, set(), [first]
        while waiting:
            for place, reached in goings_of(fleet_with(fleet, waiting.pop())):
                places.add(place)
                if reached not in members:
                    members.add(reached)
                    waiting.append(reached)
        self.members = members
        self.movers = [fleet[2][place][0] for place in sorted(places)]
        self.most = max(sum(counts) for counts in members)
        self.least = min(sum(counts) for counts in members)


def fleet_lots(fleet):
    """A dict of the lot of all counts of such ships."""
    lots = {}
    for counts in all_counts(fleet):
        if counts not in lots:
            lot = FleetLot(fleet_with(fleet, counts))
            for member in lot.members:
                lots[member] = lot
    return lots


def far_by_going(sea, one):
    """How many crossings lead from one to each standing that it comes to, layer by layer."""
    far, layer = {one: 0}, [one]
    while layer:
        following = []
        for standing in layer:
            for ship in may_by_count(sea, standing):
                reached = gone_over(standing, ship)
                if reached not in far:
                    far[reached] = far[standing] + 1
                    following.append(reached)
        layer = following
    return far


def price_by_going(sea, one, prices):
    """The least that each standing comes to, by prices, the nearest gone on from first."""
    least, waiting = {one: 0}, [(0, one)]
    while waiting:
        price, standing = heapq.heappop(waiting)
        if price > least[standing]:
            continue
        for ship in may_by_count(sea, standing):
            reached, more = gone_over(standing, ship), price + prices[ship]
            if reached not in least or more < least[reached]:
                least[reached] = more
                heapq.heappush(waiting, (more, reached))
    return least


def alike_ones(sea, one, other, prices):
    """Lists of ships that may be exchanged: alike in draught and price, and in both standings."""
    alike = {}
    for ship, draught in enumerate(sea[2]):
        alike.setdefault((draught, prices[ship], ship in one, ship in other), []).append(ship)
    return alike


def price_by_counts(sea, one, other, prices):
    """The least price from one to other, by going through how many of those alike lie here."""
    here, there, draughts = sea
    alike = alike_ones(sea, one, other, prices)
    sorts = [(draught, price, len(ships)) for (draught, price, *lies), ships in alike.items()]
    start = tuple(len(ships) if in_one else 0 for (*kind, in_one, in_other), ships in alike.items())
    end = tuple(len(ships) if in_other else 0 for (*kind, in_one, in_other), ships in alike.items())
    least, waiting = {start: 0}, [(0, start)]
    while waiting:
        paid, counts = heapq.heappop(waiting)
        if counts == end:
            return paid
        if paid > least[counts]:
            continue
        lie_here = sum(counts)
        for place, (draught, price, many) in enumerate(sorts):
            for way in (1, -1):
                if not 0 <= counts[place] + way <= many:
                    continue
                others_here = lie_here - (way == -1)
                if draught > min(here + others_here, there + len(draughts) - 1 - others_here):
                    continue
                reached = counts[:place] + (counts[place] + way,) + counts[place + 1:]
                if reached not in least or paid + price < least[reached]:
                    least[reached] = paid + price
                    heapq.heappush(waiting, (paid + price, reached))
    return None
