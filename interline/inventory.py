"""What is sold on the flights, and what may be sold yet under nested limits."""

from interline.asking import require_name
from interline.bookings import require_bookings, require_journey
from interline.charts import checked_chart


class Stock:
    """For each flight and class the limit less the bookings of this class and all lower ones.

    A stock does not change: what a sale leaves is a new one.
    """

    def __init__(self, slacks):
        self.slacks = slacks

    def room(self, flight, rank):
        """Return the room of a class on a flight."""
        return max(0, self.slacks[flight][rank])

    def left(self, flight, rank):
        """Return what is available for a class on a flight."""
        return max(0, min(self.slacks[flight][:rank + 1]))

    def left_on_all(self, journey, rank):
        """Return how many may be sold a journey in a class."""
        return min([self.left(flight, rank) for flight in journey])

    def takes(self, journey, rank):
        """Tell whether a booking is available on all flights of a journey."""
        return self.left_on_all(journey, rank) > 0

    def behind(self, journey, rank):
        """Return the stock behind a booking of a journey in a class."""
        slacks = dict(self.slacks)
        for flight in journey:
            slacks[flight] = [slack - 1 if place <= rank else slack for place, slack in enumerate(slacks[flight])]
        return Stock(slacks)


def stock_of(chart, bookings):
    """Return the stock that bookings leave."""
    stock = Stock({flight.name: list(flight.limits) for flight in chart.flights.values()})
    for _, cabin, journey in bookings:
        stock = stock.behind(journey, chart.ranks[cabin])
    return stock


def asked_chart(net, bookings):
    """Return the chart of a net for bookings that may be wrong."""
    chart = checked_chart(net)
    require_bookings(chart, bookings)
    return chart


def sold(net, bookings):
    """Return for each flight the numbers of its bookings of each class."""
    chart = asked_chart(net, bookings)
    return tuple([sold_on(chart, bookings, flight) for flight in chart.flights])


def sold_on(chart, bookings, flight):
    """Return the numbers of the bookings of a flight, class by class."""
    cabins = [cabin for _, cabin, journey in bookings if flight in journey]
    return tuple([cabins.count(name) for name in chart.ranks])


def available(net, bookings, flight, cabin):
    """Return what is available for a class on a flight."""
    chart = asked_chart(net, bookings)
    require_name(flight, chart.flights, "flight")
    require_name(cabin, chart.ranks, "class")
    return stock_of(chart, bookings).left(flight, chart.ranks[cabin])


def group(net, bookings, journey, cabin):
    """Return how many travellers together may still be sold a journey in a class."""
    chart = asked_chart(net, bookings)
    require_journey(chart, journey)
    require_name(cabin, chart.ranks, "class")
    return stock_of(chart, bookings).left_on_all(journey, chart.ranks[cabin])


def over(net, bookings):
    """Return what is sold beyond the limits: the flight, the class and the number above its limit."""
    chart = asked_chart(net, bookings)
    slacks = stock_of(chart, bookings).slacks
    return tuple([(flight, cabin, -slacks[flight][rank]) for flight in chart.flights
                  for cabin, rank in chart.ranks.items() if slacks[flight][rank] < 0])
