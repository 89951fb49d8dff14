"""Crews: which flights they fly one behind the other, how few duties do, and reserves for days that break."""

from interline.asking import require
from interline.calendar import local_day
from interline.chains import after_each, fewest_chains, has_each, is_end
from interline.charts import checked_chart
from interline.courses import asked_courses, flown_in
from interline.errors import PaperError
from interline.kinds import are_integers, is_known, is_row
from interline.limits import MAX_WAIT


def links(net, sits):
    """Return all links of a net: the pairs of flights that a crew may fly one behind the other."""
    return tuple(find_links(asked_chart(net, sits), sits))


def asked_chart(net, sits):
    """Return the chart of a net for sits that may be wrong."""
    chart = checked_chart(net)
    require(is_row(sits, 2) and are_integers(sits) and 0 <= sits[0] <= sits[1] <= MAX_WAIT, "sits")
    return chart


def find_links(chart, sits):
    """Return all links, in the order of their first flights and then of their second ones."""
    flights = list(chart.flights.values())
    return [(first.name, second.name) for first in flights for second in flights if is_link(chart, sits, first, second)]


def is_link(chart, sits, first, second):
    """Tell whether a pair of flights is a link."""
    if first.end != second.start or not sits[0] <= second.depart - first.arrive <= sits[1]:
        return False
    station = chart.stations[first.end]
    return local_day(station, first.arrive)[0] == local_day(station, second.depart)[0]


def least_duties(net, sits):
    """Return the fewest duties of a net, and a cover that shows that none are fewer."""
    chart = asked_chart(net, sits)
    names = list(chart.flights)
    places = {name: place for place, name in enumerate(names)}
    pairs = [(places[first], places[second]) for first, second in find_links(chart, sits)]
    rows, cover = fewest_chains(after_each(len(names), pairs))
    duties = tuple([tuple([names[place] for place in row]) for row in rows])
    return (duties, tuple([(word, names[place]) for word, place in cover]))


def accept_duties(net, sits, told):
    """Return None if a value is a pair of fewest duties and a cover; otherwise raise PaperError."""
    chart = asked_chart(net, sits)
    if not is_row(told, 2) or not isinstance(told[1], tuple):
        raise PaperError("form")
    if not are_duties(chart, sits, told[0]):
        raise PaperError("duties")
    if not is_cover(chart, sits, told[1]):
        raise PaperError("cover")
    if len(told[0]) != len(chart.flights) - len(told[1]):
        raise PaperError("number")


def are_duties(chart, sits, value):
    """Tell whether a value is duties of the net."""
    if not isinstance(value, tuple) or not all([is_duty(chart, sits, row) for row in value]):
        return False
    return sorted([name for row in value for name in row]) == sorted(chart.flights)


def is_duty(chart, sits, value):
    """Tell whether a value is a duty of the net."""
    if not isinstance(value, tuple) or value == () or not all([is_known(name, chart.flights) for name in value]):
        return False
    flights = chart.flights_of(value)
    return all([is_link(chart, sits, first, second) for first, second in zip(flights, flights[1:])])


def is_cover(chart, sits, value):
    """Tell whether a value is a tuple of unlike ends, of which each link has one."""
    if not all([is_end(end) and is_known(end[1], chart.flights) for end in value]):
        return False
    return has_each(value, find_links(chart, sits))


def reserves(net, sits, duties, threats, most):
    """Return the greatest number of pairs that are torn in a course, the first such course, and these pairs."""
    chart = asked_chart(net, sits)
    require(are_duties(chart, sits, duties), "duties")
    best = None
    for course in asked_courses(chart, threats, most):
        pairs = torn_pairs(flown_in(chart, course), sits, duties)
        if best is None or len(pairs) > best[0]:
            best = (len(pairs), course, tuple(pairs))
    return best


def torn_pairs(flown, sits, duties):
    """Return the neighbours of duties that are torn where flights are flown so."""
    return [(first, second) for row in duties for first, second in zip(row, row[1:])
            if is_torn(flown[first], flown[second], sits[0])]


def is_torn(first, second, least):
    """Tell whether a flight needs a reserve behind another one: it is flown, but the crew is not there in time."""
    return second is not None and (first is None or second[0] < first[1] + least)
