"""Journeys from station to station, and how soon and by how few flights one gets there."""

from interline.asking import require, require_name
from interline.charts import checked_chart
from interline.errors import PaperError
from interline.kinds import is_integer, is_row, is_within
from interline.limits import MAX_STOPS, MAX_TIME
from interline.routes import find_journeys


def journeys(net, start, end, earliest, latest, stops):
    """Return all simple journeys from start to end, in their order."""
    return tuple(asked_journeys(checked_chart(net), start, end, earliest, latest, stops))


def asked_journeys(chart, start, end, earliest, latest, stops):
    """Return the journeys for arguments that may be wrong; then raise ArgumentError."""
    require_name(start, chart.stations, "start")
    require_name(end, chart.stations, "end")
    require(start != end, "end")
    require(is_within(earliest, 0, MAX_TIME), "earliest")
    require(is_within(latest, 0, MAX_TIME), "latest")
    require(is_within(stops, 0, MAX_STOPS), "stops")
    return find_journeys(chart, start, end, earliest, latest, stops)


def front(net, start, end, earliest, latest, stops):
    """Return those of the journeys that no other one beats, in the same order."""
    chart = checked_chart(net)
    rows = asked_journeys(chart, start, end, earliest, latest, stops)
    worths = [worth(chart, row) for row in rows]
    return tuple([row for row in rows if not is_beaten(worth(chart, row), worths)])


def worth(chart, journey):
    """Return three numbers for a journey, of which greater ones are better."""
    flights = chart.flights_of(journey)
    return (flights[0].depart, -flights[-1].arrive, -len(flights))


def is_beaten(mine, worths):
    """Tell whether one of the worths is as good in all and better in one number."""
    return any([is_no_worse(other, mine) for other in worths if other != mine])


def is_no_worse(other, mine):
    """Tell whether each number of a worth is at least the one of another worth."""
    return all([one >= two for one, two in zip(other, mine)])


def legs(net, station, time):
    """Return the legs of all flights from a station at a time."""
    chart = asked_chart(net, station, time)
    return tuple(find_legs(chart, station, time))


def asked_chart(net, station, time):
    """Return the chart of a net for a station and a time that may be wrong."""
    chart = checked_chart(net)
    require_name(station, chart.stations, "station")
    require(is_within(time, 0, MAX_TIME), "time")
    return chart


def find_legs(chart, station, time):
    """Return the legs of all flights, in the order of the net."""
    known = {}
    # A flight departs behind those that it can follow, so their legs are known when its own are asked.
    for _, name in sorted([(flight.depart, flight.name) for flight in chart.flights.values()]):
        known[name] = legs_from(chart, name, station, time, known)
    return [known[name] for name in chart.flights]


def legs_from(chart, name, station, time, known):
    """Return the legs of a flight as the known legs of the flights that it can follow make them."""
    flight = chart.flights[name]
    if flight.start == station and flight.depart >= time:
        return 1
    before = [count for other, count in known.items()
              if count is not None and chart.can_follow(chart.flights[other], flight)]
    if before == [] or min(before) > MAX_STOPS:
        return None
    return min(before) + 1


def accept_legs(net, station, time, told):
    """Return None if the told value is the legs of all flights; otherwise raise PaperError."""
    chart = asked_chart(net, station, time)
    if not is_row(told, len(chart.flights)):
        raise PaperError("form")
    if not all([count is None or is_integer(count) for count in told]):
        raise PaperError("form")
    known = {name: count for name, count in zip(chart.flights, told)}
    if not all([count == legs_from(chart, name, station, time, known) for name, count in known.items()]):
        raise PaperError("entry")


def reach(net, station, time):
    """Return the earliest time of each station at which a journey brings one there."""
    chart = asked_chart(net, station, time)
    counts = find_legs(chart, station, time)
    reached = [flight for flight, count in zip(chart.flights.values(), counts) if count is not None]
    arrivals = [min([flight.arrive for flight in reached if flight.end == name], default=None)
                for name in chart.stations]
    return tuple([time if name == station else arrival for name, arrival in zip(chart.stations, arrivals)])
