"""Steps: how many others lie here as a ship goes over, and who may go at which."""

from shoalmates.water import mark_of, top_of


def mark_at(sea, step):
    """Tell the mark of a step: the greatest draught that may go over at it."""
    here, there, draughts = sea
    return mark_of(here, there, len(draughts), step)


def goers_at(sea, step):
    """Tell the rising list of all ships whose draught is no more than the step's mark."""
    draughts = sea[2]
    mark = mark_at(sea, step)
    return [ship for ship, draught in enumerate(draughts) if draught <= mark]


def top_step(sea):
    """Tell the least step whose mark is the greatest."""
    here, there, draughts = sea
    return top_of(here, there, len(draughts))


def window_of(sea, ship):
    """Tell the pair of the least and the greatest step at which the ship may go, or None."""
    here, there, draughts = sea
    last = len(draughts) - 1
    draught = draughts[ship]
    # The water here alone bounds the steps from below, the water there from above.
    least = max(0, draught - here)
    greatest = min(last, there + last - draught)
    if least > greatest:
        return None
    return (least, greatest)
