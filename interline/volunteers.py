"""Volunteers: who gives up seats for the least money."""

from interline.asking import require
from interline.errors import PaperError
from interline.kinds import are_unlike, is_integer, is_row, is_short, is_within
from interline.limits import MAX_BIDS, MAX_BOOKINGS, MAX_COIN

MAX_SEATS = 9


def volunteers(bids, need):
    """Return the least sum of bids that give up so many seats together, and their names; None if there are none."""
    table = asked_table(bids, need)
    if table[0][need] is None:
        return None
    names = []
    left = need
    for place, (name, seats, _) in enumerate(bids):
        # A bid that the rest can do without is left out.
        if table[place][left] != table[place + 1][left]:
            names.append(name)
            left = max(0, left - seats)
    return (table[0][need], tuple(names))


def bid_table(bids, need):
    """Return for each place and each number of seats the least sum of the bids from there on that give them up."""
    return asked_table(bids, need)


def asked_table(bids, need):
    """Return the table for arguments that may be wrong."""
    require_bids(bids, need)
    table = (last_row(need),)
    for _, seats, amount in reversed(bids):
        table = (row_ahead(table[0], seats, amount), *table)
    return table


def require_bids(bids, need):
    """Raise ArgumentError unless these are bids and a number of seats."""
    require(are_bids(bids), "bids")
    require(is_within(need, 0, MAX_BOOKINGS), "need")


def are_bids(value):
    """Tell whether a value is bids."""
    if not is_short(value, MAX_BIDS) or not all([is_bid(part) for part in value]):
        return False
    return are_unlike([bid[0] for bid in value])


def is_bid(value):
    """Tell whether a value is a bid."""
    if not is_row(value, 3) or not isinstance(value[0], str):
        return False
    return is_within(value[1], 1, MAX_SEATS) and is_within(value[2], 0, MAX_COIN)


def last_row(need):
    """Return the row behind all bids: without any, no seat is given up."""
    return tuple([0 if number == 0 else None for number in range(need + 1)])


def row_ahead(behind, seats, amount):
    """Return the row of a bid, by the row behind it."""
    return tuple([least_sum(behind, number, seats, amount) for number in range(len(behind))])


def least_sum(behind, number, seats, amount):
    """Return the least sum for a number of seats, with a bid or without it."""
    rest = behind[max(0, number - seats)]
    sums = [behind[number], None if rest is None else rest + amount]
    return min([told for told in sums if told is not None], default=None)


def accept_bid_table(bids, need, table):
    """Return None if a value is the table; otherwise raise PaperError."""
    require_bids(bids, need)
    if not is_row(table, len(bids) + 1) or not all([is_told_row(row, need) for row in table]):
        raise PaperError("form")
    if table[-1] != last_row(need):
        raise PaperError("entry")
    for place, (_, seats, amount) in enumerate(bids):
        if table[place] != row_ahead(table[place + 1], seats, amount):
            raise PaperError("entry")


def is_told_row(value, need):
    """Tell whether a value is a tuple of as many integers or None as a row of the table has."""
    return is_row(value, need + 1) and all([entry is None or is_integer(entry) for entry in value])
