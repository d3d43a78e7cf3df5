"""Things of any make, for what is asked of by is_.. and shows_..."""

import random

LEAVES = (0, 1, 2, 3, 5, -1, -7, 10 ** 12, True, False, None, "", "0", "low", "high", "fast", "-")
WRONG = (-1, -10 ** 12, True, False, None, "", "0", "low", (), (0,), [], [0], ((),))


def any_thing(rnd, deep):
    """A thing of numbers, truths, None, texts, lists and tuples, so deep at most."""
    if deep == 0 or rnd.random() < 0.3:
        return rnd.choice(LEAVES)
    parts = [any_thing(rnd, deep - 1) for _ in range(rnd.randint(0, 4))]
    return tuple(parts) if rnd.random() < 0.7 else parts


def any_things(seed, many):
    rnd = random.Random(seed)
    return [any_thing(rnd, 6) for _ in range(many)]


def replaced(thing, place, part):
    return thing[:place] + (part,) + thing[place + 1:]


def otherwise(thing):
    """All things with one thing otherwise: at the top, or in one of the parts."""
    if isinstance(thing, bool) or thing is None or isinstance(thing, list):
        return
    if isinstance(thing, int):
        yield from (thing + 1, thing - 1, str(thing), (thing,), [thing], *WRONG)
        return
    if isinstance(thing, str):
        yield from (thing + " ", thing[:-1], thing.upper(), (thing,), 0, None, "low", "high", "fast", "top")
        return
    yield from (list(thing), (thing,), thing + thing, thing[::-1], None, 0, True, "", str(thing))
    for place, part in enumerate(thing):
        yield thing[:place] + thing[place + 1:]
        yield thing[:place] + (part,) + thing[place:]
        if place:
            yield thing[:place - 1] + (part, thing[place - 1]) + thing[place + 1:]
        for changed in otherwise(part):
            yield replaced(thing, place, changed)
    for more in (0, -1, True, None, "0", (), 10 ** 12):
        yield thing + (more,)


def is_plain_number(thing):
    return type(thing) is int and thing >= 0
