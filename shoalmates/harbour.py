"""A harbour: two basins, and the ships in them, kept over deeds."""

from shoalmates.crossing import crossed, may_cross
from shoalmates.dredging import HERE, deepened
from shoalmates.errors import Full, NoDeed, NoShip
from shoalmates.otherwise import without_ship
from shoalmates.reach import movers_of

MOST_SHIPS = 24

# A state is a triple (sea, standing, crossings), the last how many there were so far. States
# are tuples throughout, so harbours may share them.


def check_ship(sea, ship):
    """Refuse a ship that there isn't with NoShip."""
    if ship < 0 or ship >= len(sea[2]):
        raise NoShip(ship)


def moored(state, draught, side):
    """Tell the state with a ship more in that basin, or refuse it with Full."""
    sea, standing, crossings = state
    here, there, draughts = sea
    ship = len(draughts)
    if ship >= MOST_SHIPS:
        raise Full(MOST_SHIPS)
    lying = (*standing, ship) if side == HERE else standing
    return ((here, there, (*draughts, draught)), lying, crossings)


def left_by(state, ship):
    """Tell the state without the ship, or refuse it with NoShip."""
    sea, standing, crossings = state
    check_ship(sea, ship)
    remaining, lying = without_ship(sea, standing, ship)
    return (remaining, lying, crossings)


def sailed(state, row):
    """Tell the state behind a row of ships, or refuse the first with NoShip or MayNot."""
    sea, standing, crossings = state
    for ship in row:
        check_ship(sea, ship)
        standing = crossed(sea, standing, ship)
    return (sea, standing, crossings + len(row))


def dredged(state, side, more):
    """Tell the state with that basin so much deeper."""
    sea, standing, crossings = state
    return (deepened(sea, side, more), standing, crossings)


class Harbour:
    """Two basins and their ships; deeds can be taken back, and are written into a log."""

    def __init__(self, here, there):
        self.states = [((here, there, ()), (), 0)]
        self.entries = []

    def moor(self, draught, side):
        """Moor a ship more in that basin; told is its number, refused with Full."""
        self.entries.append(("in", "moor"))
        try:
            self.states.append(moored(self.states[-1], draught, side))
            return len(self) - 1
        finally:
            self.entries.append(("out", "moor"))

    def leave(self, ship):
        """Let a ship leave for good; refused with NoShip."""
        self.entries.append(("in", "leave"))
        try:
            self.states.append(left_by(self.states[-1], ship))
        finally:
            self.entries.append(("out", "leave"))

    def cross(self, ship):
        """Let a ship go over the bar; refused with NoShip or MayNot."""
        self.entries.append(("in", "cross"))
        try:
            self.states.append(sailed(self.states[-1], [ship]))
        finally:
            self.entries.append(("out", "cross"))

    def sail(self, row):
        """Let ships go over one behind the other, as one deed; refused with NoShip or MayNot."""
        self.entries.append(("in", "sail"))
        try:
            self.states.append(sailed(self.states[-1], row))
        finally:
            self.entries.append(("out", "sail"))

    def dredge(self, side, more):
        """Make a basin so much deeper."""
        self.entries.append(("in", "dredge"))
        self.states.append(dredged(self.states[-1], side, more))
        self.entries.append(("out", "dredge"))

    def undo(self):
        """Take back the last deed that stands; told is whether there's one."""
        self.entries.append(("in", "undo"))
        undone = self.deeds() > 0
        if undone:
            self.states.pop()
        self.entries.append(("out", "undo"))
        return undone

    def sea(self):
        """Tell the sea; of no ships its draughts are bare."""
        return self.states[-1][0]

    def standing(self):
        """Tell the standing."""
        return self.states[-1][1]

    def may_go(self):
        """Tell the rising list of those that may go over."""
        return may_cross(self.sea(), self.standing())

    def movers(self):
        """Tell the rising list of all that go over in some row."""
        return movers_of(self.sea(), self.standing()) if len(self) > 0 else []

    def crossings(self):
        """Tell how many crossings there were in all deeds that stand."""
        return self.states[-1][2]

    def deeds(self):
        """Tell how many deeds can be taken back."""
        return len(self.states) - 1

    def as_of(self, many):
        """Tell a harbour of its own, as behind the first so many deeds; refused with NoDeed."""
        if many < 0 or many > self.deeds():
            raise NoDeed(many)
        here, there, draughts = self.states[0][0]
        elder = Harbour(here, there)
        elder.states = self.states[:many + 1]
        return elder

    def twin(self):
        """Tell a harbour of its own, as this one is."""
        return self.as_of(self.deeds())

    def log(self):
        """Tell the list of ("in", word) and ("out", word) of all deeds, refused or not."""
        return list(self.entries)

    def __eq__(self, other):
        """Tell whether the other is a harbour of the same sea and standing."""
        return isinstance(other, Harbour) and self.sea() == other.sea() and self.standing() == other.standing()

    def __len__(self):
        """Tell how many ships there are."""
        return len(self.sea()[2])

    def __repr__(self):
        """Tell how many ships there are, and how many of them lie here."""
        return f"Harbour({len(self)} ships, {len(self.standing())} here)"
