"""What the document's words say of a harbour, with its ships one by one."""

from going import lot_by_going, may_by_count
from shoalmates.errors import Full, MayNot, NoShip


class Kept:
    """What the document's words say of a harbour: its ships one by one, all deeds done anew."""

    def __init__(self, here, there):
        self.depths = {"here": here, "there": there}
        self.ships = []
        self.crossings = 0
        self.deeds = 0

    def sea(self):
        return (self.depths["here"], self.depths["there"], tuple(draught for draught, side in self.ships))

    def standing(self):
        return tuple(ship for ship, (draught, side) in enumerate(self.ships) if side == "here")

    def asks(self):
        sea, standing = self.sea(), self.standing()
        return {"sea": sea, "standing": standing, "may_go": may_by_count(sea, standing),
                "movers": lot_by_going(sea, standing).movers if self.ships else [],
                "crossings": self.crossings, "deeds": self.deeds, "len": len(self.ships),
                "repr": f"Harbour({len(self.ships)} ships, {len(standing)} here)"}

    def do(self, word, *told):
        """Do a deed: what is told, or the refusal's class and field; nothing is then changed."""
        if word == "moor":
            if len(self.ships) == 24:
                return (Full, {"many": 24})
            self.ships.append(tuple(told))
        elif word == "dredge":
            self.depths[told[0]] += told[1]
        elif word == "leave":
            if told[0] not in range(len(self.ships)):
                return (NoShip, {"ship": told[0]})
            del self.ships[told[0]]
        else:
            row = [told[0]] if word == "cross" else told[0]
            before = list(self.ships)
            for ship in row:
                refusal = self.go(ship)
                if refusal:
                    self.ships = before
                    return refusal
            self.crossings += len(row)
        self.deeds += 1
        return len(self.ships) - 1 if word == "moor" else None

    def go(self, ship):
        if ship not in range(len(self.ships)):
            return (NoShip, {"ship": ship})
        if ship not in may_by_count(self.sea(), self.standing()):
            return (MayNot, {"ship": ship})
        draught, side = self.ships[ship]
        self.ships[ship] = (draught, "there" if side == "here" else "here")
        return None


def kept_after(depths, deeds):
    kept = Kept(*depths)
    for deed in deeds:
        kept.do(*deed)
    return kept
