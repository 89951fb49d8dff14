"""Waves: the connections that travellers make, and when a station is busiest and quietest."""

from interline.asking import require, require_name
from interline.bookings import require_bookings
from interline.charts import checked_chart
from interline.courses import asked_courses, flown_in
from interline.kinds import is_within
from interline.limits import MAX_TIME


def connections(net, bookings):
    """Return (first, second, travellers, slack) for each connection of bookings, in ascending order of slack."""
    return tuple(find_connections(asked_chart(net, bookings), bookings))


def asked_chart(net, bookings):
    """Return the chart of a net for bookings that may be wrong."""
    chart = checked_chart(net)
    require_bookings(chart, bookings)
    return chart


def find_connections(chart, bookings):
    """Return the connections in their order."""
    many = {}
    for _, _, journey in bookings:
        for pair in zip(journey, journey[1:]):
            many[pair] = many.get(pair, 0) + 1
    places = {name: place for place, name in enumerate(chart.flights)}
    rows = [(slack_of(chart, first, second), places[first], places[second], first, second) for first, second in many]
    return [(first, second, many[(first, second)], slack) for slack, _, _, first, second in sorted(rows)]


def slack_of(chart, first, second):
    """Return how many minutes a connection has beyond the least ones."""
    before, flight = chart.flights[first], chart.flights[second]
    return flight.depart - before.arrive - chart.stations[flight.start].least


def weak_connections(net, bookings, threats, most):
    """Return (first, second, travellers, number, course) for each connection that some courses break."""
    chart = asked_chart(net, bookings)
    days = [(course, flown_in(chart, course)) for course in asked_courses(chart, threats, most)]
    found = []
    for first, second, travellers, _ in find_connections(chart, bookings):
        least = chart.stations[chart.flights[second].start].least
        torn = [course for course, flown in days if is_torn(flown[first], flown[second], least)]
        if torn != []:
            found.append((first, second, travellers, len(torn), torn[0]))
    return tuple(found)


def is_torn(first, second, least):
    """Tell whether a connection cannot be made where its flights are flown so."""
    return first is None or second is None or second[0] < first[1] + least


def busiest(net, station, length):
    """Return the greatest number of departures and arrivals in so many minutes, and when they first begin."""
    chart = asked_station(net, station)
    require(is_within(length, 1, MAX_TIME), "length")
    times = times_at(chart, station)
    best = (0, None)
    for begin in times:
        number = len([time for time in times if begin <= time < begin + length])
        if number > best[0]:
            best = (number, begin)
    return best


def asked_station(net, station):
    """Return the chart of a net for a station that may be wrong."""
    chart = checked_chart(net)
    require_name(station, chart.stations, "station")
    return chart


def times_at(chart, station):
    """Return the told times of all departures and arrivals at a station, in ascending order."""
    departs = [flight.depart for flight in chart.flights.values() if flight.start == station]
    return sorted(departs + [flight.arrive for flight in chart.flights.values() if flight.end == station])


def quietest(net, station):
    """Return the longest time between two departures or arrivals that follow one another, and when it begins."""
    times = times_at(asked_station(net, station), station)
    best = None
    for begin, end in zip(times, times[1:]):
        if best is None or end - begin > best[0]:
            best = (end - begin, begin)
    return best
