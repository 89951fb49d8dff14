"""Upkeep: what tails have flown since they were looked after."""

from interline.asking import require
from interline.charts import checked_chart
from interline.courses import asked_course, asked_courses, flown_in
from interline.kinds import are_unlike, is_known, is_row, is_within
from interline.limits import MAX_TIME


def worn(net, rules, used, course):
    """Return for each tail (flight, minutes, flights) behind each of its flights that is flown in a course."""
    chart = asked_chart(net, rules, used)
    flown = asked_course(chart, course)
    return tuple([tuple(worn_by(chart, flown, tail, rules, start)) for tail, start in zip(chart.tails.values(), used)])


def asked_chart(net, rules, used):
    """Return the chart of a net for rules and what is used that may be wrong."""
    chart = checked_chart(net)
    require(are_rules(chart, rules), "rules")
    require(is_row(used, len(chart.tails)) and all([is_used(part) for part in used]), "used")
    return chart


def are_rules(chart, value):
    """Tell whether a value is rules of upkeep."""
    if not is_row(value, 4) or not isinstance(value[0], tuple):
        return False
    if not all([is_known(name, chart.stations) for name in value[0]]) or not are_unlike(value[0]):
        return False
    return all([is_within(number, 1, MAX_TIME) for number in value[1:]])


def is_used(value):
    """Tell whether a value is what a tail has flown at first."""
    return is_row(value, 2) and all([is_within(number, 0, MAX_TIME) for number in value])


def worn_by(chart, flown, tail, rules, start):
    """Return the row of a tail that has flown so many minutes and flights at first."""
    minutes, number = start
    found = []
    last = None
    for flight in chart.flights_of(tail.flights):
        if flown[flight.name] is not None:
            depart, arrive, _ = flown[flight.name]
            if last is not None and flight.start in rules[0] and depart - last >= rules[1]:
                minutes, number = 0, 0
            minutes += arrive - depart
            number += 1
            last = arrive
            found.append((flight.name, minutes, number))
    return found


def upkeep(net, rules, used, threats, most):
    """Return ("missed", course, tail, flight) for the first flight too many, or ("kept", minutes, flights)."""
    chart = asked_chart(net, rules, used)
    _, _, most_minutes, most_flights = rules
    left_minutes, left_flights = most_minutes, most_flights
    for course in asked_courses(chart, threats, most):
        flown = flown_in(chart, course)
        for tail, start in zip(chart.tails.values(), used):
            for name, minutes, number in worn_by(chart, flown, tail, rules, start):
                if minutes > most_minutes or number > most_flights:
                    return ("missed", course, tail.name, name)
                left_minutes = min(left_minutes, most_minutes - minutes)
                left_flights = min(left_flights, most_flights - number)
    return ("kept", left_minutes, left_flights)
