"""Journeys over the flights of a chart."""

from interline.errors import TooMany
from interline.kinds import is_known
from interline.limits import MAX_JOURNEYS, MAX_STOPS


def is_journey(chart, value):
    """Tell whether a value is a journey of the net."""
    if not isinstance(value, tuple) or not 1 <= len(value) <= MAX_STOPS + 1:
        return False
    if not all([is_known(name, chart.flights) for name in value]):
        return False
    flights = chart.flights_of(value)
    return all([chart.can_follow(before, flight) for before, flight in zip(flights, flights[1:])])


def find_journeys(chart, start, end, earliest, latest, stops):
    """Return the simple journeys from start to end in their order, or raise TooMany."""
    usable = [flight for flight in chart.flights.values()
              if flight.depart >= earliest and flight.arrive <= latest]
    rows = [[flight] for flight in usable if flight.start == start]
    found = []
    for _ in range(stops + 1):
        found.extend([order_key(row) for row in rows if row[-1].end == end])
        if len(found) > MAX_JOURNEYS:
            raise TooMany("journeys")
        rows = longer_rows(chart, [row for row in rows if row[-1].end != end], usable)
    return [key[-1] for key in sorted(found)]


def longer_rows(chart, rows, usable):
    """Return all simple rows that begin with one of the simple rows and have one flight more."""
    return [[*row, flight] for row in rows for flight in usable
            if chart.can_follow(row[-1], flight) and is_new_station(row, flight.end)]


def rows_to(rows, after, end):
    """Return all rows that go on from rows of one flight and come to an end at last, but not before.

    The flights that may stand directly behind each flight are given by its name.
    """
    found = []
    for stops in range(MAX_STOPS + 1):
        if stops > 0:
            rows = [[*row, flight] for row in rows if row[-1].end != end for flight in after[row[-1].name]]
        found.extend([row for row in rows if row[-1].end == end])
    return found


def is_new_station(row, station):
    """Tell whether a row of flights comes to a station neither at its start nor later."""
    return row[0].start != station and station not in [flight.end for flight in row]


def order_key(row):
    """Return what journeys are ordered by, with the names of the flights as the last part."""
    return (row[-1].arrive, -row[0].depart, len(row), tuple([flight.name for flight in row]))
