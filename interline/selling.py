"""Offers over all flights: rows of decisions, their bounds, and the papers of these."""

from heapq import heappop, heappush

from interline.errors import TooMany
from interline.limits import MAX_CHOICES


class Offer:
    """What a traveller would pay for a journey in a class."""

    def __init__(self, name, rank, journey, price):
        self.name = name
        self.rank = rank
        self.journey = journey
        self.price = price


class Decisions:
    """A row of decisions on the first offers, and the stock that it leaves."""

    def __init__(self, offers, decided, taken, total, stock):
        self.offers = offers
        self.decided = decided
        self.taken = taken
        self.total = total
        self.stock = stock
        self.bound = total + sum([offer.price for offer in offers[decided:] if self.is_open(offer)])

    def is_open(self, offer):
        """Tell whether an offer is available behind what the row takes."""
        return self.stock.takes(offer.journey, offer.rank)

    def is_whole(self):
        """Tell whether the row decides all offers."""
        return self.decided == len(self.offers)

    def taking(self):
        """Return the row with the next offer taken."""
        offer = self.offers[self.decided]
        stock = self.stock.behind(offer.journey, offer.rank)
        return Decisions(self.offers, self.decided + 1, (*self.taken, offer.name), self.total + offer.price, stock)

    def leaving(self):
        """Return the row with the next offer left."""
        return Decisions(self.offers, self.decided + 1, self.taken, self.total, self.stock)

    def further(self):
        """Return the rows that this one leads to: with the next offer taken, if it is open, and left."""
        if self.is_whole():
            return []
        if self.is_open(self.offers[self.decided]):
            return [self.taking(), self.leaving()]
        return [self.leaving()]


def no_decisions(offers, stock):
    """Return the empty row of decisions."""
    return Decisions(offers, 0, (), 0, stock)


def best_selection(offers, stock):
    """Return a whole row of decisions with the greatest sum, or raise TooMany."""
    # The row with the greatest bound is visited first, so no row below the greatest sum is visited.
    row = no_decisions(offers, stock)
    queue = []
    number = 0
    visited = 0
    while not row.is_whole():
        visited += 1
        if visited > MAX_CHOICES:
            raise TooMany("choices")
        for other in row.further():
            # Of equal bounds the newest one goes first, so that whole rows are met soon.
            number -= 1
            heappush(queue, (-other.bound, number, other))
        _, _, row = heappop(queue)
    return row


def count_rows(row, least, most):
    """Count the rows from a row on that are not whole and have a bound, stopping above `most`."""
    if row.is_whole() or row.bound < least:
        return 0
    count = 1
    for other in row.further():
        if count <= most:
            count += count_rows(other, least, most - count)
    return count


def bound_paper(row, most):
    """Return the paper that no selection that keeps to a row has a sum above `most`."""
    if row.bound <= most:
        return ()
    return tuple([bound_paper(other, most) for other in row.further()])


def is_bound_paper(row, most, paper):
    """Tell whether a value is the paper that no selection that keeps to a row has a sum above `most`."""
    if not isinstance(paper, tuple):
        return False
    if row.bound <= most:
        return paper == ()
    rows = row.further()
    # A whole row above the bound is a selection with a greater sum, so there is no paper.
    if rows == [] or len(rows) != len(paper):
        return False
    return all([is_bound_paper(other, most, part) for other, part in zip(rows, paper)])
