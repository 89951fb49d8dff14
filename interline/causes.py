"""Causes: which event makes a flight late or cancelled, minute by minute."""

from interline.charts import checked_chart
from interline.courses import asked_course


def causes(net, course):
    """Return for each flight ("late", causes) or ("cancelled", event), in the order of the net."""
    chart, found = asked_causes(net, course)
    return tuple([found[name] for name in chart.flights])


def asked_causes(net, course):
    """Return the chart of a net, and the causes by flight, for a course that may be wrong."""
    chart = checked_chart(net)
    flown = asked_course(chart, course)
    found = {}
    for tail in chart.tails.values():
        found.update(causes_by(chart, flown, tail, course))
    return chart, found


def causes_by(chart, flown, tail, course):
    """Return the causes of the flights of a tail, by name."""
    events = {event[1]: event for event in course}
    found = {}
    late = ()
    cancelled = None
    ready = 0
    stand = None
    for flight in chart.flights_of(tail.flights):
        event = events.get(flight.name)
        if flown[flight.name] is None:
            # Where the tail does not stand at the start, the cause of the gap before goes on.
            if stand is None or stand == flight.start:
                cancelled = event
                stand = flight.start
            found[flight.name] = ("cancelled", cancelled)
        else:
            late = causes_at(flight, event, late, max(0, ready - flight.depart))
            ready = flown[flight.name][1] + chart.kinds[tail.kind].turn
            stand = flight.end
            found[flight.name] = ("late", late)
    return found


def causes_at(flight, event, late, behind):
    """Return the causes of a flight whose tail is ready so many minutes behind, by those of the flight before it."""
    told = last_minutes(late, behind)
    own = event[2] if event is not None and event[0] == "late" else 0
    if own > behind:
        told = (*told, (event, own - behind))
    return told


def last_minutes(late, left):
    """Return causes without their first minutes, so that so many are left."""
    told = ()
    for event, minutes in reversed(late):
        if left > 0:
            told = ((event, min(minutes, left)), *told)
            left -= minutes
    return told


def blame(net, course):
    """Return for each event of a course the minutes and the cancelled flights of which it is the cause."""
    _, found = asked_causes(net, course)
    return tuple([(minutes_by(event, found), cancelled_by(event, found)) for event in course])


def minutes_by(event, found):
    """Return the minutes of which an event is the cause, over all flights."""
    rows = [told for word, told in found.values() if word == "late"]
    return sum([minutes for told in rows for other, minutes in told if other == event])


def cancelled_by(event, found):
    """Return the number of cancelled flights of which an event is the cause."""
    return len([told for word, told in found.values() if word == "cancelled" and told == event])
