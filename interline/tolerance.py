"""Tolerance: how late a flight may be, by itself, at a told cost at most."""

from interline.asking import require, require_name
from interline.bookings import require_bookings
from interline.charts import checked_chart
from interline.courses import flown_in
from interline.errors import PaperError
from interline.kinds import is_integer, is_row, is_within
from interline.limits import MAX_MINUTES
from interline.plans import best_plan, cheapest_plan, is_plan_paper, no_choices, plan_paper
from interline.rescue import find_damage, require_prices


class Delay:
    """A flight that may be late, and what it costs: bookings of a net and prices."""

    def __init__(self, chart, bookings, prices, flight):
        self.chart = chart
        self.sold = bookings
        self.prices = prices
        self.flight = flight

    def choices_at(self, minutes):
        """Return the empty row of choices for the day on which the flight is so late, or raise TooMany."""
        course = () if minutes == 0 else (("late", self.flight, minutes),)
        return no_choices(find_damage(self.chart, flown_in(self.chart, course), self.sold, self.prices))


def tolerance(net, bookings, prices, flight, bound, most):
    """Return the minutes that keep to the bound, and a paper that one more does not; None if all of them do."""
    delay = asked_delay(net, bookings, prices, flight)
    require_bound(bound)
    require_most(most)
    for minutes in range(most + 1):
        first = delay.choices_at(minutes)
        if cheapest_plan(first, bound) is None:
            return (minutes - 1, plan_paper(first, bound + 1))
    return (most, None)


def asked_delay(net, bookings, prices, flight):
    """Return the delay for arguments that may be wrong."""
    chart = checked_chart(net)
    require_bookings(chart, bookings)
    require_prices(chart, prices)
    require_name(flight, chart.flights, "flight")
    return Delay(chart, bookings, prices, flight)


def require_bound(value):
    """Raise ArgumentError unless a value is a bound."""
    require(is_integer(value) and value >= 0, "bound")


def require_most(value):
    """Raise ArgumentError unless a value is a greatest number of minutes."""
    require(is_within(value, 0, MAX_MINUTES), "most")


def accept_tolerance(net, bookings, prices, flight, bound, most, told):
    """Return None if the paper in a value is right for one minute more than its number; otherwise raise PaperError."""
    delay = asked_delay(net, bookings, prices, flight)
    require_bound(bound)
    require_most(most)
    if not is_row(told, 2) or not is_integer(told[0]):
        raise PaperError("form")
    minutes, paper = told
    if not -1 <= minutes <= most or (paper is None) != (minutes == most):
        raise PaperError("number")
    if paper is not None and not is_plan_paper(delay.choices_at(minutes + 1), bound + 1, paper):
        raise PaperError("paper")


def curve(net, bookings, prices, flight, most):
    """Return the least costs for all numbers of minutes up to a greatest one."""
    delay = asked_delay(net, bookings, prices, flight)
    require_most(most)
    return tuple([best_plan(delay.choices_at(minutes)).cost for minutes in range(most + 1)])
