"""Bookings of a net, and what else names a class and a journey."""

from interline.asking import require
from interline.kinds import are_unlike, is_known, is_row, is_short
from interline.limits import MAX_BOOKINGS
from interline.routes import is_journey


def are_bookings(chart, value):
    """Tell whether a value is bookings of the net."""
    if not is_short(value, MAX_BOOKINGS) or not all([is_booking(chart, part) for part in value]):
        return False
    return are_unlike([booking[0] for booking in value])


def is_booking(chart, value):
    """Tell whether a value is a booking of the net."""
    if not is_row(value, 3) or not isinstance(value[0], str):
        return False
    return is_known(value[1], chart.ranks) and is_journey(chart, value[2])


def require_bookings(chart, value):
    """Raise ArgumentError unless a value is bookings of the net."""
    require(are_bookings(chart, value), "bookings")


def require_journey(chart, value):
    """Raise ArgumentError unless a value is a journey of the net."""
    require(is_journey(chart, value), "journey")
