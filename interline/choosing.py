"""Choices of what to sell: requests for one flight, and offers over all flights."""

from interline.asking import require, require_name
from interline.bookings import is_booking
from interline.errors import PaperError, TooMany
from interline.inventory import asked_chart, stock_of
from interline.kinds import are_unlike, is_integer, is_known, is_row, is_short, is_within
from interline.limits import MAX_CHOICES, MAX_COIN, MAX_REQUESTS
from interline.selling import Offer, best_selection, bound_paper, count_rows, is_bound_paper, no_decisions


class Request:
    """What a traveller would pay for a flight in a class."""

    def __init__(self, name, rank, price):
        self.name = name
        self.rank = rank
        self.price = price


def choose(net, bookings, flight, requests):
    """Return the greatest sum of all choices, a choice that has it, and a paper for it."""
    rooms, rows = asked_requests(net, bookings, flight, requests)
    taken = [0 for _ in rooms]
    paper = [None for _ in rows]
    for _, place in sorted([(-row.price, place) for place, row in enumerate(rows)]):
        own = rows[place].rank
        full = [rank for rank in range(own + 1) if taken[rank] == rooms[rank]]
        # What makes a class full here costs no less than this request, and nothing joins it later.
        if full != []:
            paper[place] = full[0]
        else:
            taken = [count + 1 if rank <= own else count for rank, count in enumerate(taken)]
    chosen = [row for row, entry in zip(rows, paper) if entry is None]
    return (sum([row.price for row in chosen]), tuple([row.name for row in chosen]), tuple(paper))


def asked_requests(net, bookings, flight, requests):
    """Return the rooms of a flight and the requests for arguments that may be wrong."""
    chart = asked_chart(net, bookings)
    require_name(flight, chart.flights, "flight")
    require(are_requests(chart, requests), "requests")
    stock = stock_of(chart, bookings)
    rooms = [stock.room(flight, rank) for rank in chart.ranks.values()]
    return rooms, [Request(name, chart.ranks[cabin], price) for name, cabin, price in requests]


def are_requests(chart, value):
    """Tell whether a value is requests."""
    if not is_short(value, MAX_REQUESTS) or not all([is_request(chart, part) for part in value]):
        return False
    return are_unlike([request[0] for request in value])


def is_request(chart, value):
    """Tell whether a value is a request."""
    if not is_row(value, 3) or not isinstance(value[0], str):
        return False
    return is_known(value[1], chart.ranks) and is_within(value[2], 0, MAX_COIN)


def accept_choice(net, bookings, flight, requests, told):
    """Return None if a value is the greatest sum, a choice and a paper; otherwise raise PaperError."""
    rooms, rows = asked_requests(net, bookings, flight, requests)
    if not is_row(told, 3) or not is_integer(told[0]):
        raise PaperError("form")
    chosen = picked(told[1], rows)
    if chosen is None or not has_rooms(rooms, chosen):
        raise PaperError("choice")
    if told[0] != sum([row.price for row in chosen]):
        raise PaperError("sum")
    if not is_choice_paper(rooms, rows, told[1], told[2]):
        raise PaperError("paper")


def picked(told, rows):
    """Return the rows whose names a value tells in their order, or None if it does not tell such names."""
    if not isinstance(told, tuple):
        return None
    found = [row for row in rows if row.name in told]
    if tuple([row.name for row in found]) != told:
        return None
    return found


def has_rooms(rooms, chosen):
    """Tell whether the chosen requests of each class and all lower ones find room."""
    return all([len(prices_from(rank, chosen)) <= room for rank, room in enumerate(rooms)])


def prices_from(rank, chosen):
    """Return the prices of the chosen requests of a class and all lower ones."""
    return [row.price for row in chosen if row.rank >= rank]


def is_choice_paper(rooms, rows, names, paper):
    """Tell whether a value is a paper for a choice."""
    if not is_row(paper, len(rows)):
        return False
    chosen = [row for row in rows if row.name in names]
    return all([entry is None if row.name in names else is_full_below(rooms, row, chosen, entry)
                for row, entry in zip(rows, paper)])


def is_full_below(rooms, row, chosen, rank):
    """Tell whether a rank shows that a request is rightly left: it is full of chosen ones that cost no less."""
    if not is_within(rank, 0, row.rank):
        return False
    prices = prices_from(rank, chosen)
    return len(prices) == rooms[rank] and all([price >= row.price for price in prices])


def greatest_sales(net, bookings, offers):
    """Return the greatest sum of all selections, one that has it, and the paper that none is above it."""
    rows, stock = asked_offers(net, bookings, offers)
    best = best_selection(rows, stock)
    first = no_decisions(rows, stock)
    if count_rows(first, best.total, MAX_CHOICES) > MAX_CHOICES:
        raise TooMany("choices")
    return (best.total, best.taken, bound_paper(first, best.total))


def asked_offers(net, bookings, offers):
    """Return the offers and the stock for arguments that may be wrong."""
    chart = asked_chart(net, bookings)
    require(are_offers(chart, offers), "offers")
    rows = [Offer(name, chart.ranks[cabin], journey, price) for name, cabin, journey, price in offers]
    return rows, stock_of(chart, bookings)


def are_offers(chart, value):
    """Tell whether a value is offers."""
    if not is_short(value, MAX_REQUESTS) or not all([is_offer(chart, part) for part in value]):
        return False
    return are_unlike([offer[0] for offer in value])


def is_offer(chart, value):
    """Tell whether a value is an offer: a booking with a price."""
    return is_row(value, 4) and is_booking(chart, value[:3]) and is_within(value[3], 0, MAX_COIN)


def accept_sales(net, bookings, offers, told):
    """Return None if a value is the greatest sum, a selection and the paper; otherwise raise PaperError."""
    rows, stock = asked_offers(net, bookings, offers)
    if not is_row(told, 3) or not is_integer(told[0]):
        raise PaperError("form")
    taken = picked(told[1], rows)
    if taken is None or not can_be_sold(stock, taken):
        raise PaperError("choice")
    if told[0] != sum([offer.price for offer in taken]):
        raise PaperError("sum")
    if not is_bound_paper(no_decisions(rows, stock), told[0], told[2]):
        raise PaperError("paper")


def can_be_sold(stock, taken):
    """Tell whether offers can be sold one after the other."""
    for offer in taken:
        if not stock.takes(offer.journey, offer.rank):
            return False
        stock = stock.behind(offer.journey, offer.rank)
    return True
