"""Gates: where tails stand in a course, and how many gates are enough."""

from interline.asking import require, require_name
from interline.charts import checked_chart
from interline.courses import asked_course, asked_courses, flown_in
from interline.errors import PaperError
from interline.kinds import are_same, is_integer, is_row, is_within
from interline.limits import MAX_WAIT

MAX_GATES = 100


def stands(net, course, lead):
    """Return all stands of the tails in a course, as (station, begin, end, tail)."""
    chart = checked_chart(net)
    flown = asked_course(chart, course)
    require_lead(lead)
    return tuple(find_stands(chart, flown, lead))


def require_lead(lead):
    """Raise ArgumentError unless a value is a number of minutes for which tails stand at first and at last."""
    require(is_within(lead, 1, MAX_WAIT), "lead")


def find_stands(chart, flown, lead):
    """Return all stands, tail by tail, those of a tail in the order of time."""
    found = []
    for tail in chart.tails.values():
        flights = [flight for flight in chart.flights_of(tail.flights) if flown[flight.name] is not None]
        if flights != []:
            depart = flown[flights[0].name][0]
            found.append((flights[0].start, depart - lead, depart, tail.name))
            for before, flight in zip(flights, flights[1:]):
                found.append((before.end, flown[before.name][1], flown[flight.name][0], tail.name))
            arrive = flown[flights[-1].name][1]
            found.append((flights[-1].end, arrive, arrive + lead, tail.name))
    return found


def gate_stands(chart, flown, lead, station):
    """Return the stands that hold gates at a station, as (begin, end, tail), in ascending order."""
    return sorted([(begin, end, tail) for place, begin, end, tail in find_stands(chart, flown, lead)
                   if place == station and begin < end])


def least_gates(net, station, lead, threats, most):
    """Return the greatest number of gates that are held at one time, the first such course, and the first time."""
    chart = asked_chart(net, station, lead)
    best = None
    for course in asked_courses(chart, threats, most):
        number, time = most_held(gate_stands(chart, flown_in(chart, course), lead, station))
        if best is None or number > best[0]:
            best = (number, course, time)
    return best


def asked_chart(net, station, lead):
    """Return the chart of a net for a station and a lead that may be wrong."""
    chart = checked_chart(net)
    require_name(station, chart.stations, "station")
    require_lead(lead)
    return chart


def most_held(rows):
    """Return the greatest number of stands at one time and the first such time, (0, None) if there are none."""
    best = (0, None)
    # The number grows only where a stand begins, and the stands are in the order of their begins.
    for begin, _, _ in rows:
        number = len([row for row in rows if row[0] <= begin < row[1]])
        if number > best[0]:
            best = (number, begin)
    return best


def gate_plan(net, station, lead, course):
    """Return a plan (gate, begin, end, tail) for the stands of a course at a station."""
    return tuple(find_plan(asked_stands(net, station, lead, course)))


def asked_stands(net, station, lead, course):
    """Return the stands that hold gates, for arguments that may be wrong."""
    chart = asked_chart(net, station, lead)
    flown = asked_course(chart, course)
    return gate_stands(chart, flown, lead, station)


def find_plan(rows):
    """Return the rows with the least gate for each that no row before it holds at its begin."""
    plan = []
    for begin, end, tail in rows:
        held = [gate for gate, _, last, _ in plan if last > begin]
        free = [gate for gate in range(len(held) + 1) if gate not in held]
        plan.append((free[0], begin, end, tail))
    return plan


def accept_gate_plan(net, station, lead, course, gates, plan):
    """Return None if a value is a plan with gates below a number; otherwise raise PaperError."""
    rows = asked_stands(net, station, lead, course)
    require(is_within(gates, 0, MAX_GATES), "gates")
    if not is_row(plan, len(rows)):
        raise PaperError("form")
    for row, entry in zip(rows, plan):
        accept_entry(row, gates, entry)
    for place, entry in enumerate(plan):
        # The plan is in the order of its begins, so a gate is shared where it is held at the begin of another row.
        if any([before[0] == entry[0] and before[2] > entry[1] for before in plan[:place]]):
            raise PaperError("shared")


def accept_entry(row, gates, entry):
    """Raise PaperError unless a value is a row with a gate below a number ahead of it."""
    if not is_row(entry, 4) or not is_integer(entry[0]):
        raise PaperError("form")
    if not are_same(entry[1:], row):
        raise PaperError("stand")
    if not 0 <= entry[0] < gates:
        raise PaperError("gate")
