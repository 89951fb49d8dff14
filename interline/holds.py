"""Holds: flights that wait for connections, and what it costs to hold them."""

from interline.asking import require
from interline.charts import checked_chart
from interline.courses import MAX_LATE, flown_held, require_course
from interline.kinds import are_unlike, is_known, is_row, is_short, is_within
from interline.limits import MAX_HOLDS, MAX_STEPS
from interline.mending import asked_day
from interline.picking import rows_of
from interline.plans import best_plan, no_choices
from interline.rescue import find_damage


def actual_held(net, course, holds):
    """Return what becomes of all flights in a course where some are held, in the order of the net."""
    chart = checked_chart(net)
    require_course(chart, course)
    require_holds(chart, holds)
    flown = flown_held(chart, course, holds)
    return tuple([flown[name] for name in chart.flights])


def require_holds(chart, value):
    """Raise ArgumentError unless a value is holds of unlike flights."""
    require(are_holds(chart, value, MAX_HOLDS) and are_unlike([hold[0] for hold in value]), "holds")


def are_holds(chart, value, most):
    """Tell whether a value is a tuple of at most so many holds."""
    return is_short(value, most) and all([is_hold(chart, part) for part in value])


def is_hold(chart, value):
    """Tell whether a value is a hold of a flight of the net."""
    return is_row(value, 2) and is_known(value[0], chart.flights) and is_within(value[1], 1, MAX_LATE)


def cost_held(net, bookings, course, prices, holds):
    """Return what it costs to mend what is broken in a course with holds, and what lateness costs of what is kept."""
    chart = asked_day(net, bookings, course, prices)
    require_holds(chart, holds)
    return costs_of(chart, bookings, course, prices, holds)


def costs_of(chart, bookings, course, prices, holds):
    """Return the two costs of a course with holds, or raise TooMany."""
    flown = flown_held(chart, course, holds)
    damage = find_damage(chart, flown, bookings, prices)
    late = 0
    for place, (_, cabin, journey) in enumerate(bookings):
        if place not in damage.places:
            minutes = flown[journey[-1]][1] - chart.flights[journey[-1]].arrive
            late += minutes * prices[0][chart.ranks[cabin]]
    return (best_plan(no_choices(damage)).cost, late)


def least_holds(net, bookings, course, prices, offers, many):
    """Return the least sum of the two costs over all rows of at most so many offers, and the first row that has it."""
    chart = asked_day(net, bookings, course, prices)
    require(are_holds(chart, offers, MAX_STEPS), "offers")
    require(is_within(many, 0, MAX_HOLDS), "many")
    best = None
    for places in rows_of([hold[0] for hold in offers], many):
        row = tuple([offers[place] for place in places])
        cost = sum(costs_of(chart, bookings, course, prices, row))
        if best is None or cost < best[0]:
            best = (cost, row)
    return best
