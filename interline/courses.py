"""Courses: days on which some events happen, and what becomes of the flights."""

from interline.asking import require
from interline.charts import checked_chart
from interline.errors import TooMany
from interline.kinds import are_unlike, is_known, is_row, is_short, is_within
from interline.limits import MAX_COURSES, MAX_EVENTS, MAX_THREATS
from interline.picking import rows_of

MAX_LATE = 1440


def courses(net, threats, most):
    """Return all courses of at most so many of the threats, the fewest events first."""
    return tuple(asked_courses(checked_chart(net), threats, most))


def asked_courses(chart, threats, most):
    """Return the courses for arguments that may be wrong; then raise ArgumentError."""
    require_threats(chart, threats, most)
    return find_courses(threats, most)


def require_threats(chart, threats, most):
    """Raise ArgumentError unless these are threats of the net and a greatest number of events."""
    require(are_threats(chart, threats), "threats")
    require(is_within(most, 0, MAX_EVENTS), "events")


def find_courses(threats, most):
    """Return all courses of at most so many of the threats in their order, or raise TooMany."""
    rows = rows_of([threat[1] for threat in threats], most)
    if len(rows) > MAX_COURSES:
        raise TooMany("courses")
    return [tuple([threats[place] for place in row]) for row in rows]


def are_threats(chart, value):
    """Tell whether a value is threats of the net."""
    if not is_short(value, MAX_THREATS) or not all([is_event(chart, part) for part in value]):
        return False
    return all([event not in value[:place] for place, event in enumerate(value)])


def is_course(chart, value):
    """Tell whether a value is a course of the net."""
    if not is_short(value, MAX_EVENTS) or not all([is_event(chart, part) for part in value]):
        return False
    return are_unlike([event[1] for event in value])


def is_event(chart, value):
    """Tell whether a value is an event of the net."""
    if is_row(value, 2):
        return value[0] == "cancel" and is_known(value[1], chart.flights)
    if not is_row(value, 3) or not is_known(value[1], chart.flights):
        return False
    if value[0] == "late":
        return is_within(value[2], 1, MAX_LATE)
    return value[0] == "smaller" and is_smaller(chart, chart.flights[value[1]].kind, value[2])


def is_smaller(chart, kind, value):
    """Tell whether a value is the name of a type with fewer seats than another type."""
    return is_known(value, chart.kinds) and chart.kinds[value].seats < chart.kinds[kind].seats


def actual(net, course):
    """Return what becomes of all flights in a course, in the order of the net."""
    chart = checked_chart(net)
    flown = asked_course(chart, course)
    return tuple([flown[name] for name in chart.flights])


def asked_course(chart, course):
    """Return what becomes of the flights in a course that may be wrong; then raise ArgumentError."""
    require_course(chart, course)
    return flown_in(chart, course)


def require_course(chart, course):
    """Raise ArgumentError unless a value is a course of the net."""
    require(is_course(chart, course), "course")


def flown_in(chart, course):
    """Return what becomes of the flights in a course: by name, None or (depart, arrive, seats)."""
    return flown_held(chart, course, ())


def flown_held(chart, course, holds):
    """Return what becomes of the flights in a course where some flights are held: pairs of a name and minutes."""
    events = {event[1]: event for event in course}
    waits = {event[1]: event[2] for event in course if event[0] == "late"}
    for name, minutes in holds:
        waits[name] = max(minutes, waits.get(name, 0))
    flown = {}
    for tail in chart.tails.values():
        flown.update(flown_by(chart, tail, events, waits))
    return flown


def flown_by(chart, tail, events, waits):
    """Return what becomes of the flights of a tail, by name."""
    found = {}
    flights = chart.flights_of(tail.flights)
    if flights == []:
        return found
    stand = flights[0].start
    # No flight departs before the time 0, so a tail that is ready then is ready at any time.
    ready = 0
    for flight in flights:
        event = events.get(flight.name, ("none",))
        if event[0] == "cancel" or stand != flight.start:
            found[flight.name] = None
        else:
            depart = max(flight.depart + waits.get(flight.name, 0), ready)
            kind = event[2] if event[0] == "smaller" else flight.kind
            found[flight.name] = (depart, depart + flight.arrive - flight.depart, chart.kinds[kind].seats)
            stand = flight.end
            ready = found[flight.name][1] + chart.kinds[tail.kind].turn
    return found


def departures(chart, flown):
    """Return the names of the flights that are flown as they depart, those of one departure in the order of the net."""
    order = [(flown[name][0], place, name) for place, name in enumerate(chart.flights) if flown[name] is not None]
    return [name for _, _, name in sorted(order)]
