"""Shifts: the fewest flights that must be told for another time so that the book closes."""

from interline.asking import require
from interline.book import Book, accept_book, close_book, require_book
from interline.bookings import are_bookings
from interline.charts import Chart, checked_chart
from interline.checks import is_net
from interline.courses import find_courses
from interline.errors import PaperError
from interline.forms import FLIGHTS
from interline.kinds import are_same, is_known, is_row, is_short, is_within
from interline.limits import MAX_SHIFTS, MAX_STEPS
from interline.picking import rows_of

MAX_SHIFT = 1440


def least_shifts(net, bookings, threats, events, prices, bound, steps, most):
    """Return the first row of steps behind which the book closes, and that book; None if there is none."""
    for row in asked_rows(net, bookings, threats, events, prices, bound, steps, most):
        chart = chart_behind(net, row)
        if chart is not None and are_bookings(chart, bookings):
            answer = close_book(Book(chart, bookings, find_courses(threats, events), prices, bound))
            if answer[0] == "kept":
                return (row, answer[1])
    return None


def asked_rows(net, bookings, threats, events, prices, bound, steps, most):
    """Return the rows of steps in their order for arguments that may be wrong."""
    chart = checked_chart(net)
    require_book(chart, bookings, threats, events, prices, bound)
    require(are_steps(chart, steps), "steps")
    require(is_within(most, 0, MAX_SHIFTS), "shifts")
    return [tuple([steps[place] for place in row]) for row in rows_of([step[0] for step in steps], most)]


def are_steps(chart, value):
    """Tell whether a value is steps of the net."""
    if not is_short(value, MAX_STEPS) or not all([is_shift(chart, part) for part in value]):
        return False
    return all([step not in value[:place] for place, step in enumerate(value)])


def is_shift(chart, value):
    """Tell whether a value is a shift of a flight of the net."""
    if not is_row(value, 2) or not is_known(value[0], chart.flights):
        return False
    return is_within(value[1], -MAX_SHIFT, MAX_SHIFT) and value[1] != 0


def chart_behind(net, row):
    """Return the chart of the net behind some shifts, or None if `check` does not accept it."""
    shifted = net[:FLIGHTS] + (shifted_flights(net[FLIGHTS], row),) + net[FLIGHTS + 1:]
    if not is_net(shifted):
        return None
    return Chart(shifted)


def shifted_flights(flights, row):
    """Return the flights of a net behind some shifts."""
    minutes = {name: number for name, number in row}
    found = []
    for flight in flights:
        more = minutes.get(flight[0], 0)
        found.append(flight[:3] + (flight[3] + more, flight[4] + more) + flight[5:])
    return tuple(found)


def accept_shifts(net, bookings, threats, events, prices, bound, steps, most, told):
    """Return None if a value is a row of steps and a book for the net behind it; otherwise raise PaperError."""
    rows = asked_rows(net, bookings, threats, events, prices, bound, steps, most)
    if not is_row(told, 2):
        raise PaperError("form")
    if not any([are_same(told[0], row) for row in rows]):
        raise PaperError("row")
    chart = chart_behind(net, told[0])
    if chart is None or not are_bookings(chart, bookings):
        raise PaperError("net")
    accept_book(Book(chart, bookings, find_courses(threats, events), prices, bound), ("kept", told[1]))
