"""Dredging: how much deeper a basin must be for a standing to be reached, or a ship to go."""

from shoalmates.reach import comes_to, movers_of

HERE = "here"
THERE = "there"


def deepened(sea, side, more):
    """Tell the sea with the depth of a side so much more."""
    here, there, draughts = sea
    if side == HERE:
        return (here + more, there, tuple(draughts))
    return (here, there + more, tuple(draughts))


def most_needed(sea, side):
    """Tell the number by which a side, deepened, floats all ships, whoever lies in it."""
    here, there, draughts = sea
    return max(0, max(draughts) - (here if side == HERE else there))


def least_of(does, most):
    """Tell the least number up to most that does, or None; all beyond one that does do, too."""
    if not does(most):
        return None
    least = 0
    enough = most
    while least < enough:
        middle = (least + enough) // 2
        if does(middle):
            enough = middle
        else:
            least = middle + 1
    return least


def least_dredged(sea, one, other, side):
    """Tell the least number by which a side, deepened, lets one come to other, or None."""
    return least_of(lambda more: comes_to(deepened(sea, side, more), one, other), most_needed(sea, side))


def least_freeing(sea, standing, side, ship):
    """Tell the least number by which a side, deepened, lets the ship ever go, or None."""
    return least_of(lambda more: ship in movers_of(deepened(sea, side, more), standing), most_needed(sea, side))


def freed_by(sea, standing, side):
    """Tell the list, ship by ship, of the least numbers that let it ever go, or None."""
    draughts = sea[2]
    return [least_freeing(sea, standing, side, ship) for ship in range(len(draughts))]
