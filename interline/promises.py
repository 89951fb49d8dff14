"""Promises: which journeys no course breaks, and when they arrive at the latest."""

from interline.asking import require, require_name
from interline.bookings import require_bookings, require_journey
from interline.broken import own_break
from interline.charts import checked_chart
from interline.courses import asked_courses, flown_in
from interline.kinds import is_within
from interline.limits import MAX_TIME
from interline.routes import rows_to


def promise(net, journey, threats, most):
    """Return ("broken", course, leg, reason) for the first such course, or ("kept", time, course)."""
    chart = checked_chart(net)
    require_journey(chart, journey)
    return promise_of(chart, days_of(chart, asked_courses(chart, threats, most)), journey)


def promises(net, bookings, threats, most):
    """Return the promises of the journeys of bookings, in their order."""
    chart = checked_chart(net)
    require_bookings(chart, bookings)
    days = days_of(chart, asked_courses(chart, threats, most))
    return tuple([promise_of(chart, days, booking[2]) for booking in bookings])


def days_of(chart, rows):
    """Return each of some courses with what becomes of the flights in it."""
    return [(course, flown_in(chart, course)) for course in rows]


def promise_of(chart, days, journey):
    """Return the promise of a journey."""
    for course, flown in days:
        leg, reason = own_break(chart, flown, journey)
        if leg < len(journey):
            return ("broken", course, leg, reason)
    time, course = latest_arrival(days, journey[-1])
    return ("kept", time, course)


def latest_arrival(days, name):
    """Return the latest arrival of a flight that is always flown, and the first course that has it."""
    best = None
    for course, flown in days:
        if best is None or flown[name][1] > best[0]:
            best = (flown[name][1], course)
    return best


def safest(net, start, end, earliest, threats, most):
    """Return the journey that no course breaks and that arrives first at the latest, as (time, journey, course)."""
    chart = checked_chart(net)
    require_name(start, chart.stations, "station")
    require_name(end, chart.stations, "station")
    require(is_within(earliest, 0, MAX_TIME), "earliest")
    days = days_of(chart, asked_courses(chart, threats, most))
    safe = [flight for flight in chart.flights.values() if is_always_flown(days, flight.name)]
    after = {before.name: [flight for flight in safe if is_always_caught(chart, days, before, flight)]
             for before in safe}
    first = [[flight] for flight in safe if flight.start == start and flight.depart >= earliest]
    rows = rows_to(first, after, end)
    latest = {flight.name: latest_arrival(days, flight.name) for flight in safe}
    found = [(latest[row[-1].name][0], tuple([flight.name for flight in row])) for row in rows]
    if found == []:
        return None
    time, journey = min(found)
    return (time, journey, latest[journey[-1]][1])


def is_always_flown(days, name):
    """Tell whether a flight is cancelled on no day."""
    return all([flown[name] is not None for _, flown in days])


def is_always_caught(chart, days, before, flight):
    """Tell whether a flight can follow another one and is missed behind it on no day."""
    if not chart.can_follow(before, flight):
        return False
    return all([own_break(chart, flown, (before.name, flight.name))[1] is None for _, flown in days])
