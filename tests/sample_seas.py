"""Seas for the tests, and what the document's words say of them, step by step."""

import random
from itertools import product

BIG = 10 ** 12
MOST_SHIPS = 24


def small_seas():
    """All seas of one to three ships with small depths and draughts."""
    for many in (1, 2, 3):
        for here, there in product(range(5), repeat=2):
            for draughts in product(range(0, 7, 3 if many == 3 else 1), repeat=many):
                yield (here, there, draughts)


def depth_pairs():
    """Depths that are nothing, small, alike, very unlike, and near the bound."""
    near = (0, 1, 2, 11, 12, 13, 23, 24, 25)
    far = (BIG - 30, BIG - 23, BIG - 12, BIG - 1, BIG)
    return list(product(near + far, repeat=2))


def draughts_around(here, there, many):
    """So many draughts, at and about all heights that marks of these depths can have."""
    low = min(here, there)
    heights = [0, 1, low - 1, low, low + 1, low + many // 2 - 1, low + many // 2,
               low + many // 2 + 1, low + many - 1, low + many, max(here, there), BIG]
    kept = [min(BIG, max(0, height)) for height in heights]
    return tuple(kept[place * 5 % len(kept)] for place in range(many))


def wide_seas():
    """Seas of few ships and of 24, of all those depths."""
    for many in (1, 2, 5, 8, MOST_SHIPS - 1, MOST_SHIPS):
        for here, there in depth_pairs():
            yield (here, there, draughts_around(here, there, many))
            yield (here, there, (min(here, there),) * many)
    for many in (2, 7, MOST_SHIPS):
        yield (0, 0, tuple(range(many)))
        yield (3, 9, tuple(reversed(range(many))))


def all_seas():
    yield from small_seas()
    yield from wide_seas()


def steps_of(sea):
    return range(len(sea[2]))


def afloat_both_ways(sea, ship, step):
    """Whether the ship floats in both basins with so many others here, the rest there."""
    here, there, draughts = sea
    others = [other for other in range(len(draughts)) if other != ship]
    lie_here, lie_there = others[:step], others[step:]
    floats_here = draughts[ship] <= here + len(lie_here)
    floats_there = draughts[ship] <= there + len(lie_there)
    return floats_here and floats_there


def helping_seas(seed, many, most_ships, fewest=1):
    """Seas in which draughts lie about the marks, so that many a ship needs others."""
    rnd = random.Random(seed)
    for _ in range(many):
        ships = rnd.randint(fewest, most_ships)
        base = rnd.choice((0, 0, 3, BIG - 40))
        here = base + rnd.randint(0, 4)
        there = here if rnd.random() < 0.25 else base + rnd.randint(0, 4)
        low, top = min(here, there), (here + there + ships - 1) // 2
        heights = [max(0, rnd.randint(low - 1, top)) for _ in range(rnd.randint(1, ships))]
        yield (here, there, tuple(rnd.choice(heights) for _ in range(ships)))


def full_pairs():
    """Seas of 24 ships of few draughts, with two standings that come to one another."""
    ships = tuple(range(MOST_SHIPS))
    for here, there, draughts, one, other in (
            (0, 0, (0,) * 12 + (11,) * 12, (12,), ()),
            (0, 0, (0,) * 12 + (11,) * 12, (), (0, 1, 12, 13)),
            (0, 0, (0,) * 12 + (11,) * 12, ships, (12, 13)),
            (0, 0, (0,) * 6 + (6,) * 6 + (11,) * 12, (0,), ships[1:]),
            (0, 0, (0,) * 6 + (6,) * 6 + (11,) * 12, ships[1:], (0, 23)),
            (2, 5, (2,) * 8 + (9,) * 8 + (14,) * 8, (0, 8, 16), (1, 9, 17)),
            (2, 5, (2,) * 8 + (9,) * 8 + (14,) * 8, (), ships),
            (9, 0, (3,) * 15 + (10,) * 7 + (15,) * 2, ships[4:], (0, 22)),
            (0, 9, (1,) * 4 + (4,) * 10 + (15,) * 10, (0, 23), (1, 22)),
            (BIG - 20, BIG - 22, (BIG - 21,) * 9 + (BIG - 16,) * 10 + (BIG - 10,) * 5, ships[3:], (5, 20)),
            (0, BIG, (0,) * 20 + (19, 20, 21, 22), (23,), (20,)),
            (4, 4, (15,) * 24, ships[:11], ships[5:16])):
        yield (here, there, draughts), one, other
