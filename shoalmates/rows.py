"""Rows: the cheapest way from a standing to another one that it comes to.

All that lie otherwise in the end can go at any step within the window of the deepest of
them. Where a standing has too few ships here, or too many, for that window, others must go
over first, at one step after the other: its way in. A row goes the one's way in, then all
other crossings within the window, then the other's way in, back to front.

Whoever lies otherwise goes once in any case; anyone else, or going thrice, costs more. A ship
is *spared* that does neither. Whether ships can be spared together is a matter of steps that
must be filled, of which each next one lets all go that the one ahead does. So those that can
be make a matroid, and sparing the dearest first leaves the least to be paid.
"""

from shoalmates.seas import other_side
from shoalmates.steps import mark_at, window_of


def otherwise_ones(one, other):
    """Tell the rising list of those that lie here in just one of both standings."""
    return sorted(set(one) ^ set(other))


def window_between(sea, one, other):
    """Tell the window of the greatest draught of those that lie otherwise."""
    draughts = sea[2]
    return window_of(sea, max(otherwise_ones(one, other), key=lambda ship: draughts[ship]))


def steps_in(standing, window):
    """Tell the list of the steps, as they're gone, from a standing into the window."""
    first, last = window
    many = len(standing)
    return list(range(many, first)) + list(range(many - 1, last, -1))


def those_for(sea, standing, window):
    """Tell those that can go on a standing's way into the window, where it has one."""
    return other_side(sea, standing) if len(standing) < window[0] else standing


def gaps_between(sea, ends):
    """Tell the rising list of (mark, place) of all steps on the ways in of both ends."""
    window = window_between(sea, ends[0], ends[1])
    return sorted([(mark_at(sea, step), place) for place in (0, 1) for step in steps_in(ends[place], window)])


def pool_for(sea, ends, place, spared):
    """Tell the list of those that can go on the way in of that end, those not spared ahead."""
    one, other = ends
    moved = otherwise_ones(one, other)
    those = those_for(sea, ends[place], window_between(sea, one, other))
    unspared = [ship for ship in those if ship not in spared]
    return unspared + [ship for ship in those if ship in spared and ship in moved]


def ways_in(sea, ends, spared):
    """Tell the two lists of who goes on the ways in of both ends, or None where they're too few."""
    draughts = sea[2]
    pools = (pool_for(sea, ends, 0, spared), pool_for(sea, ends, 1, spared))
    ways = ([], [])
    for mark, place in gaps_between(sea, ends):
        able = [ship for ship in pools[place] if draughts[ship] <= mark and ship not in ways[place]
                and not (ship in spared and ship in ways[1 - place])]
        if len(able) == 0:
            return None
        # All that are able now are so at each later step; so those go first whom the other end
        # doesn't lose by it.
        ways[place].append(able[0])
    return ways


def spared_ones(sea, ends, prices):
    """Tell the list of those that are spared, the dearest first."""
    spared = []
    for ship in sorted(list(range(len(sea[2]))), key=lambda mate: prices[mate], reverse=True):
        if ways_in(sea, ends, [*spared, ship]) is not None:
            spared.append(ship)
    return spared


def row_within(one, other, window):
    """Tell a row between two standings, each ship once, that doesn't leave the window."""
    last = window[1]
    comers = [ship for ship in other if ship not in one]
    leavers = [ship for ship in one if ship not in other]
    many = len(one)
    row = []
    while len(comers) + len(leavers) > 0:
        if len(comers) > 0 and many <= last:
            row.append(comers.pop())
            many += 1
        else:
            row.append(leavers.pop())
            many -= 1
    return row


def cheapest_row(sea, one, other, prices):
    """Tell a row of the least price from one to other, to which it comes."""
    if tuple(one) == tuple(other):
        return []
    ends = (one, other)
    into, back = ways_in(sea, ends, spared_ones(sea, ends, prices))
    middle = row_within(otherwise_ones(one, into), otherwise_ones(other, back), window_between(sea, one, other))
    return into + middle + back[::-1]
