"""Prices: the cheapest row, where each ship costs so much at each of its crossings."""

from shoalmates.errors import Apart
from shoalmates.reach import comes_to
from shoalmates.rows import cheapest_row


def paid(prices, row):
    """Tell what a row of ships comes to."""
    return sum([prices[ship] for ship in row])


def cheapest(sea, one, other, prices):
    """Tell the pair of the least price from one to other and such a row, or refuse it with Apart."""
    if not comes_to(sea, one, other):
        raise Apart()
    row = cheapest_row(sea, one, other, prices)
    return (paid(prices, row), row)
