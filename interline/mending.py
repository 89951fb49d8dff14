"""Mending: plans of the least cost for what a course has broken."""

from interline.bookings import require_bookings
from interline.charts import checked_chart
from interline.courses import flown_in, require_course
from interline.errors import PaperError
from interline.kinds import is_integer, is_row
from interline.plans import best_plan, is_plan_paper, no_choices, plan_cost, plan_paper
from interline.rescue import find_damage, require_prices


def ways(net, bookings, course, prices):
    """Return for each broken booking its place and its ways, pairs of a cost and a journey."""
    damage = asked_damage(net, bookings, course, prices)
    return tuple([(place, tuple(rows)) for place, rows in zip(damage.places, damage.ways)])


def asked_damage(net, bookings, course, prices):
    """Return the damage in a course for arguments that may be wrong."""
    chart = asked_day(net, bookings, course, prices)
    return find_damage(chart, flown_in(chart, course), bookings, prices)


def asked_day(net, bookings, course, prices):
    """Return the chart of a net for a course, bookings and prices that may be wrong."""
    chart = checked_chart(net)
    require_course(chart, course)
    require_bookings(chart, bookings)
    require_prices(chart, prices)
    return chart


def least_mend(net, bookings, course, prices):
    """Return the least cost of all plans, a plan that has it, and the paper that none costs less."""
    damage = asked_damage(net, bookings, course, prices)
    first = no_choices(damage)
    best = best_plan(first)
    return (best.cost, best.made, plan_paper(first, best.cost))


def accept_mend(net, bookings, course, prices, told):
    """Return None if a value is the least cost, a plan and the paper; otherwise raise PaperError."""
    damage = asked_damage(net, bookings, course, prices)
    if not is_row(told, 3) or not is_integer(told[0]):
        raise PaperError("form")
    cost = plan_cost(damage, told[1])
    if cost is None:
        raise PaperError("plan")
    if cost != told[0]:
        raise PaperError("cost")
    if not is_plan_paper(no_choices(damage), cost, told[2]):
        raise PaperError("paper")
