"""Lots: a lot is all standings that come to one another.

Marks rise up to the top step and fall behind it. So a standing of no more ships than the
top step fills up, ship by ship, until all goers lie here (it stops at that step: a LOW lot),
or until a ship goes over at the top step (a TOP lot); one of more ships empties likewise (a
HIGH lot). In each lot those that aren't goers at its step lie as they lie for ever, and all
others move as freely as the steps beyond let them.

Here fleets are asked of, as how many of each draught lie where is all that matters. A lot is
the pair of its kind and its step. What holds of the basin there is asked of the turned fleet,
in which each step is counted from the other end.
"""

from shoalmates.water import mark_of, top_of

LOW = "low"
HIGH = "high"
TOP = "top"
TURNED_KINDS = {"low": "high", "high": "low", "top": "top"}


def fleet_of(sea, standing):
    """Tell the fleet of a sea's ships, as they lie in a standing."""
    here, there, draughts = sea
    ours = [draughts[ship] for ship in standing]
    sorts = []
    for draught in sorted(set(draughts)):
        many = len([other for other in draughts if other == draught])
        lying = len([other for other in ours if other == draught])
        sorts.append((draught, lying, many - lying))
    return (here, there, tuple(sorts))


def turned_fleet(fleet):
    """Tell the fleet with here and there exchanged."""
    here, there, sorts = fleet
    return (there, here, tuple([(draught, theirs, ours) for draught, ours, theirs in sorts]))


def ships_many(fleet):
    """Tell how many ships there are in all."""
    return sum([ours + theirs for draught, ours, theirs in fleet[2]])


def mark_in(fleet, step):
    """Tell the mark of a step."""
    here, there, sorts = fleet
    return mark_of(here, there, ships_many(fleet), step)


def goers_many(fleet, step):
    """Tell how many ships are goers at a step."""
    mark = mark_in(fleet, step)
    return sum([ours + theirs for draught, ours, theirs in fleet[2] if draught <= mark])


def top_in(fleet):
    """Tell the least step whose mark is the greatest."""
    here, there, sorts = fleet
    return top_of(here, there, ships_many(fleet))


def filled_at(fleet, step):
    """Tell how many lie here once all goers at a step have come to those that do now."""
    mark = mark_in(fleet, step)
    return sum([ours + (theirs if draught <= mark else 0) for draught, ours, theirs in fleet[2]])


def low_stop(fleet, top):
    """Tell the step, top at most, at which all goers lie here and no more can come, or None."""
    step = sum([ours for draught, ours, theirs in fleet[2]])
    # Goers at a step are goers at the next, so as many as can come at this one do come:
    # no step between is a stop, and each turn of the loop frees another sort, or ends it.
    while step <= top:
        filled = filled_at(fleet, step)
        if filled == step:
            return step
        step = filled
    return None


def lot_of(fleet):
    """Tell the lot that a fleet's standing belongs to: the pair of its kind and its step."""
    last = ships_many(fleet) - 1
    top = top_in(fleet)
    stop = low_stop(fleet, top)
    if stop is not None:
        return (LOW, stop)
    stop = low_stop(turned_fleet(fleet), last - top)
    if stop is not None:
        return (HIGH, last - stop)
    return (TOP, top)


def turned_lot(fleet, lot):
    """Tell what the lot is in the turned fleet."""
    kind, step = lot
    return (TURNED_KINDS[kind], ships_many(fleet) - 1 - step)


def fixed_ones(fleet, lot):
    """Tell the list, sort by sort, of how many of those that don't go in the lot lie here."""
    mark = mark_in(fleet, lot[1])
    return [ours for draught, ours, theirs in fleet[2] if draught > mark]


def least_in(fleet, lot):
    """Tell the least number of ships that lie here in any standing of the fleet's lot."""
    kind, step = lot
    if kind == HIGH:
        return step + 1
    here, there, sorts = fleet
    # Down to some number, at each step on the way there are as many goers as leave from it
    # on, or more. Goers only change where a sort's draught comes afloat, so it's enough to
    # look at the last step ahead of that, for each sort, and at the last of all.
    ends = [step] + [draught - here for draught, ours, theirs in sorts if draught - here < step]
    bounds = [end - goers_many(fleet, end - 1) for end in ends if end > 0]
    return max([sum(fixed_ones(fleet, lot)), *bounds])


def most_in(fleet, lot):
    """Tell the greatest number of ships that lie here in any standing of the fleet's lot."""
    return ships_many(fleet) - least_in(turned_fleet(fleet), turned_lot(fleet, lot))


def moving_mark(fleet, lot):
    """Tell the mark up to which the draughts of the lot's movers go, or None where none moves."""
    kind, step = lot
    # Nobody goes at the very step that a low or a high lot stops at.
    if kind == LOW:
        step -= 1
    if kind == HIGH:
        step += 1
    if step < 0 or step >= ships_many(fleet):
        return None
    return mark_in(fleet, step)
