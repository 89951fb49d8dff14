"""Quotes: the cheapest journey that may be sold, with a paper for each journey."""

from interline.asking import require_name
from interline.bookings import require_bookings
from interline.charts import checked_chart
from interline.errors import PaperError
from interline.fares import construction, find_table
from interline.inventory import stock_of
from interline.journeys import asked_journeys
from interline.kinds import are_same, is_row


class Market:
    """The journeys that are asked for, and what may be sold on them in a class."""

    def __init__(self, chart, bookings, cabin, rows):
        self.chart = chart
        self.stock = stock_of(chart, bookings)
        self.cabin = cabin
        self.rows = rows

    def full_flights(self, journey):
        """Return the flights of a journey on which nothing is available."""
        return [name for name in journey if not self.stock.takes((name,), self.chart.ranks[self.cabin])]

    def table(self, journey):
        """Return the price table of a journey."""
        return tuple(find_table(self.chart, self.chart.flights_of(journey), self.cabin))

    def offer(self):
        """Return the cheapest journey that may be sold, as (price, journey, parts), or None."""
        best = None
        for journey in self.rows:
            found = construction(self.chart, self.chart.flights_of(journey), self.cabin)
            if found is None or self.full_flights(journey) != []:
                continue
            if best is None or found[0] < best[0]:
                best = (found[0], journey, found[1])
        return best


def quote(net, bookings, cabin, start, end, earliest, latest, stops):
    """Return the cheapest offer of the journeys that may be sold, and a paper for it."""
    market = asked_market(net, bookings, cabin, start, end, earliest, latest, stops)
    return (market.offer(), tuple([entry_for(market, journey) for journey in market.rows]))


def asked_market(net, bookings, cabin, start, end, earliest, latest, stops):
    """Return the market for arguments that may be wrong; then raise ArgumentError."""
    chart = checked_chart(net)
    require_bookings(chart, bookings)
    require_name(cabin, chart.ranks, "class")
    rows = asked_journeys(chart, start, end, earliest, latest, stops)
    return Market(chart, bookings, cabin, rows)


def entry_for(market, journey):
    """Return the entry of a paper for a journey: its first full flight, or its price table."""
    full = market.full_flights(journey)
    if full != []:
        return full[0]
    return market.table(journey)


def accept_quote(net, bookings, cabin, start, end, earliest, latest, stops, told):
    """Return None if a value is the offer with a paper for it; otherwise raise PaperError."""
    market = asked_market(net, bookings, cabin, start, end, earliest, latest, stops)
    if not is_row(told, 2) or not is_row(told[1], len(market.rows)):
        raise PaperError("form")
    if not all([is_entry_for(market, journey, entry) for journey, entry in zip(market.rows, told[1])]):
        raise PaperError("entry")
    if not are_same(told[0], market.offer()):
        raise PaperError("offer")


def is_entry_for(market, journey, entry):
    """Tell whether a value is a full flight of a journey, or its price table if it has none."""
    full = market.full_flights(journey)
    if full != []:
        return entry in full
    return are_same(entry, market.table(journey))
