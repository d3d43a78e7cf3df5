"""The refusals of this program, each a class of its own straight under one of Python's."""


class MayNot(ValueError):
    """A ship may not go over the bar."""

    def __init__(self, ship):
        ValueError.__init__(self, f"ship {ship} may not go over the bar")
        self.ship = ship


class Apart(ValueError):
    """One standing doesn't come to the other."""

    def __init__(self):
        ValueError.__init__(self, "the one standing doesn't come to the other")


class BadText(ValueError):
    """A text isn't written as it must be."""

    def __init__(self, text):
        ValueError.__init__(self, f"not so written: {text!r}")
        self.text = text


class BadRow(ValueError):
    """A row of a text isn't written as it must be."""

    def __init__(self, row):
        ValueError.__init__(self, f"row {row} isn't so written")
        self.row = row


class NoShip(LookupError):
    """There's no ship of that number."""

    def __init__(self, ship):
        LookupError.__init__(self, f"there's no ship {ship}")
        self.ship = ship


class NoDeed(LookupError):
    """There aren't so many deeds."""

    def __init__(self, many):
        LookupError.__init__(self, f"there aren't {many} deeds")
        self.many = many


class Full(OverflowError):
    """The harbour takes no more ships."""

    def __init__(self, many):
        OverflowError.__init__(self, f"there are {many} ships already")
        self.many = many
