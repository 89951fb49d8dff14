"""Tickets and their coupons."""

from interline.fares import shares


class Coupon:
    """The right to one flight, for a part of what was paid."""

    def __init__(self, flight, value, fare):
        self.flight = flight
        self.value = value
        self.fare = fare
        self.state = "open"

    def row(self):
        """Return the coupon as (flight, value, fare, state)."""
        return (self.flight, self.value, self.fare, self.state)


class Ticket:
    """A traveller's coupons, in the order in which the ticket got them."""

    def __init__(self, name, cabin):
        self.name = name
        self.cabin = cabin
        self.coupons = []

    def open_coupons(self):
        """Return the coupons that are open, in order."""
        return [coupon for coupon in self.coupons if coupon.state == "open"]

    def has_flown(self):
        """Tell whether a coupon is flown."""
        return "flown" in [coupon.state for coupon in self.coupons]

    def booking(self):
        """Return (name, class, journey), with the flights of the open coupons as the journey."""
        return (self.name, self.cabin, tuple([coupon.flight for coupon in self.open_coupons()]))

    def exchange(self, state, coupons):
        """Give up all open coupons, which get another state, for new ones."""
        for coupon in self.open_coupons():
            coupon.state = state
        self.coupons.extend(coupons)


def value_of(coupons):
    """Return the sum of the values of coupons."""
    return sum([coupon.value for coupon in coupons])


def coupons_of(flights, value, fare):
    """Return a coupon for each of some flights, which share a value by their distances."""
    parts = shares(value, tuple([flight.distance for flight in flights]))
    return [Coupon(flight.name, part, fare) for flight, part in zip(flights, parts)]


def coupons_by(chart, flights, parts):
    """Return the coupons of flights that are sold by the parts of a construction."""
    found = []
    for size, fare in parts:
        place = len(found)
        found.extend(coupons_of(flights[place:place + size], chart.fares[fare].price, fare))
    return found
