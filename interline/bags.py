"""Bags: which are left behind in a course, and how they get home."""

from interline.asking import require, require_name
from interline.bookings import require_bookings
from interline.broken import find_breaks
from interline.charts import checked_chart
from interline.courses import asked_course, departures
from interline.errors import PaperError
from interline.kinds import is_integer, is_row, is_within
from interline.limits import BAG_MINUTES, MAX_TIME


def bag_minutes(chart, station):
    """Return the minutes that a bag needs at a station from one flight to the next."""
    return chart.stations[station].least + BAG_MINUTES


def short(net, bookings, course):
    """Return for each booking None, or where and when its bag is left behind."""
    chart = checked_chart(net)
    flown = asked_course(chart, course)
    require_bookings(chart, bookings)
    return tuple(find_short(chart, flown, bookings))


def find_short(chart, flown, bookings):
    """Return for each booking None, or (leg, station, time) where its bag is left behind."""
    breaks = find_breaks(chart, flown, bookings)
    return [left_behind(chart, flown, booking[2], leg) for booking, (leg, _) in zip(bookings, breaks)]


def left_behind(chart, flown, journey, end):
    """Return where the bag of a traveller who is carried up to a leg is left behind, or None."""
    for leg in range(1, end):
        station = chart.flights[journey[leg]].start
        arrive = flown[journey[leg - 1]][1]
        if flown[journey[leg]][0] < arrive + bag_minutes(chart, station):
            return (leg, station, arrive)
    return None


def bag_times(net, course, station, time):
    """Return for each station the earliest time at which a bag can stand there, None if it can't."""
    chart, flown = asked_stand(net, course, station, time)
    ways = bag_ways(chart, flown, station, time)
    return tuple([ways[name][0] if name in ways else None for name in chart.stations])


def asked_stand(net, course, station, time):
    """Return the chart and what becomes of its flights for arguments that may be wrong."""
    chart = checked_chart(net)
    flown = asked_course(chart, course)
    require_name(station, chart.stations, "station")
    require(is_within(time, 0, MAX_TIME), "time")
    return chart, flown


def bag_ways(chart, flown, station, time):
    """Return for each station that a bag can get to its earliest time there and the flights that bring it."""
    ways = {station: (time, ())}
    # A flight departs behind those that bring a bag to it, so these were visited when its turn comes.
    for name in departures(chart, flown):
        flight = chart.flights[name]
        arrive = flown[name][1]
        if flight.start in ways and takes_bag(chart, flown, flight, ways[flight.start][0]):
            if flight.end not in ways or arrive < ways[flight.end][0]:
                ways[flight.end] = (arrive, (*ways[flight.start][1], name))
    return ways


def takes_bag(chart, flown, flight, time):
    """Tell whether a flight is flown and takes a bag that stands at its start at a time."""
    return flown[flight.name] is not None and flown[flight.name][0] >= time + bag_minutes(chart, flight.start)


def accept_bag_times(net, course, station, time, table):
    """Return None if a value is the times of all stations; otherwise raise PaperError."""
    chart, flown = asked_stand(net, course, station, time)
    if not is_row(table, len(chart.stations)):
        raise PaperError("form")
    if not all([entry is None or is_integer(entry) for entry in table]):
        raise PaperError("form")
    times = {name: entry for name, entry in zip(chart.stations, table)}
    for name, entry in times.items():
        right = time if name == station else first_time(chart, flown, name, times)
        if entry != right:
            raise PaperError("entry")


def first_time(chart, flown, station, times):
    """Return the least arrival of the flights to a station that a bag reaches by the times of the others."""
    return min([flown[flight.name][1] for flight in chart.flights.values()
                if flight.end == station and times[flight.start] is not None
                and takes_bag(chart, flown, flight, times[flight.start])], default=None)


def forward(net, bookings, course):
    """Return for each booking None, or when and by which flights a bag that is left behind gets home."""
    chart = checked_chart(net)
    flown = asked_course(chart, course)
    require_bookings(chart, bookings)
    left = find_short(chart, flown, bookings)
    return tuple([way_home(chart, flown, booking[2], told) for booking, told in zip(bookings, left)])


def way_home(chart, flown, journey, told):
    """Return the time and the flights by which a bag that is left behind gets home, () if it can't."""
    if told is None:
        return None
    _, station, time = told
    return bag_ways(chart, flown, station, time).get(chart.flights[journey[-1]].end, ())
