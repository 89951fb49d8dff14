"""Charts: nets that keep the rules, with their rows found by their names."""

from interline.checks import check
from interline.forms import CLASSES, FARES, FLIGHTS, STATIONS, TAILS, TYPES
from interline.limits import MAX_WAIT


class Station:
    """A station of a net."""

    def __init__(self, row):
        self.name = row[0]
        self.zone = row[1]
        self.least = row[2]


class Kind:
    """A type of planes."""

    def __init__(self, row):
        self.name = row[0]
        self.seats = row[1]
        self.turn = row[2]


class Flight:
    """A flight of a net, by its told times."""

    def __init__(self, row):
        self.name = row[0]
        self.start = row[1]
        self.end = row[2]
        self.depart = row[3]
        self.arrive = row[4]
        self.kind = row[5]
        self.distance = row[6]
        self.limits = row[7]


class Tail:
    """A plane and the names of its flights, in order."""

    def __init__(self, row):
        self.name = row[0]
        self.kind = row[1]
        self.flights = row[2]


class Fare:
    """A fare of a net."""

    def __init__(self, row):
        self.name = row[0]
        self.start = row[1]
        self.end = row[2]
        self.cabin = row[3]
        self.price = row[4]
        self.stops = row[5]
        self.fee = row[6]
        self.back = row[7]


class Chart:
    """The parts of a net as tables by name, each in the order of the net."""

    def __init__(self, net):
        self.stations = {row[0]: Station(row) for row in net[STATIONS]}
        self.kinds = {row[0]: Kind(row) for row in net[TYPES]}
        self.ranks = {name: rank for rank, name in enumerate(net[CLASSES])}
        self.flights = {row[0]: Flight(row) for row in net[FLIGHTS]}
        self.tails = {row[0]: Tail(row) for row in net[TAILS]}
        self.fares = {row[0]: Fare(row) for row in net[FARES]}

    def flights_of(self, journey):
        """Return the flights of a journey, in order."""
        return [self.flights[name] for name in journey]

    def can_follow(self, before, flight):
        """Tell whether a flight can stand directly behind another one in a journey."""
        if flight.start != before.end:
            return False
        return self.stations[flight.start].least <= flight.depart - before.arrive <= MAX_WAIT


def checked_chart(net):
    """Return the chart of a net, or raise what `check` raises for it."""
    check(net)
    return Chart(net)
