"""Lacks: how many ships are lacking on the way from one standing to another, and what shows it."""

from shoalmates.errors import Apart
from shoalmates.kinds import is_number, is_tuple_of
from shoalmates.reach import comes_to
from shoalmates.rows import window_between
from shoalmates.seas import is_place
from shoalmates.steps import mark_at


def goers_among(sea, ships, steps):
    """Tell how many of the ships are goers at one of the steps at least."""
    draughts = sea[2]
    mark = max([mark_at(sea, step) for step in steps])
    return len([ship for ship in ships if draughts[ship] <= mark])


def both_ways(one, other):
    """Tell the list of triples (from, to, those that come): from one to other, and back."""
    comers = [ship for ship in other if ship not in one]
    leavers = [ship for ship in one if ship not in other]
    return [(one, other, comers), (other, one, leavers)]


def lacking_below(sea, ways, step):
    """Tell how many are lacking, at least, up to a step below the window."""
    return max([step + 1 - len(start) - goers_among(sea, comers, [step]) for start, end, comers in ways])


def lacking_above(sea, ways, step):
    """Tell how many are lacking, at least, down to a step above the window."""
    return max([len(end) - step - goers_among(sea, comers, [step]) for start, end, comers in ways])


def lacking_both(sea, ways, low, high):
    """Tell how many are lacking, at least, from a step below the window to one above it."""
    return max([low + 1 - len(start) + len(end) - high - goers_among(sea, comers, [low, high])
                for start, end, comers in ways])


def lacking_by(sea, ways, paper):
    """Tell the most that a paper of a step, or of two, shows to be lacking; maybe below 0."""
    if paper[0] == "below":
        return lacking_below(sea, ways, paper[1])
    if paper[0] == "above":
        return lacking_above(sea, ways, paper[1])
    return lacking_both(sea, ways, paper[1], paper[2])


def is_below(window, thing):
    """Tell whether a thing is a step below the window."""
    return is_number(thing) and thing < window[0]


def is_above(sea, window, thing):
    """Tell whether a thing is a step above the window."""
    return is_place(sea, thing) and thing > window[1]


def is_step_paper(sea, window, thing):
    """Tell whether a thing is made like a paper of a step, or of two."""
    if is_tuple_of(thing, 3):
        word, low, high = thing
        return word == "both" and is_below(window, low) and is_above(sea, window, high)
    if not is_tuple_of(thing, 2):
        return False
    word, step = thing
    if word == "below":
        return is_below(window, step)
    return word == "above" and is_above(sea, window, step)


def step_papers(sea, window):
    """Tell the list of all papers of a step, or of two."""
    first, last = window
    lows = list(range(first))
    highs = list(range(last + 1, len(sea[2])))
    papers = [("below", low) for low in lows] + [("above", high) for high in highs]
    return papers + [("both", low, high) for low in lows for high in highs]


def lack_of(sea, one, other):
    """Tell the pair of the lack and a paper that no less is lacking, or refuse it with Apart."""
    if not comes_to(sea, one, other):
        raise Apart()
    lack = 0
    shown_by = ("none",)
    if tuple(one) == tuple(other):
        return (lack, shown_by)
    ways = both_ways(one, other)
    for paper in step_papers(sea, window_between(sea, one, other)):
        lacking = lacking_by(sea, ways, paper)
        if lacking > lack:
            lack = lacking
            shown_by = paper
    return (lack, shown_by)


def shows_lack(sea, one, other, many, thing):
    """Tell whether a thing is a paper that no less is lacking than many."""
    if is_tuple_of(thing, 1):
        return thing[0] == "none" and many == 0
    if tuple(one) == tuple(other):
        return False
    if not is_step_paper(sea, window_between(sea, one, other), thing):
        return False
    return many <= lacking_by(sea, both_ways(one, other), thing)
