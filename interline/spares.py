"""Spares: planes that stand by, and how few of them keep the book closed."""

from interline.asking import require
from interline.book import Book, accept_book, close_book, require_book, visit_courses
from interline.charts import checked_chart
from interline.courses import find_courses, require_course
from interline.errors import PaperError
from interline.kinds import are_same, is_known, is_row, is_short, is_within
from interline.limits import MAX_SPARES, MAX_STEPS
from interline.picking import rows_of
from interline.standby import flown_with


def actual_with(net, spares, course):
    """Return what becomes of all flights in a course when spares stand by, in the order of the net."""
    chart = checked_chart(net)
    require(are_spares(chart, spares, MAX_SPARES), "spares")
    require_course(chart, course)
    flown = flown_with(chart, spares, course)
    return tuple([flown[name] for name in chart.flights])


def are_spares(chart, value, most):
    """Tell whether a value is a tuple of at most so many spares."""
    return is_short(value, most) and all([is_spare(chart, part) for part in value])


def is_spare(chart, value):
    """Tell whether a value is a spare: a station and a type of the net."""
    return is_row(value, 2) and is_known(value[0], chart.stations) and is_known(value[1], chart.kinds)


def guard_with(net, bookings, threats, most, prices, bound, spares):
    """Return what `guard` does, for flights with spares that stand by."""
    return close_book(asked_book(net, bookings, threats, most, prices, bound, spares))


def asked_book(net, bookings, threats, most, prices, bound, spares):
    """Return what the book is kept for, for arguments that may be wrong."""
    chart = checked_chart(net)
    require_book(chart, bookings, threats, most, prices, bound)
    require(are_spares(chart, spares, MAX_SPARES), "spares")
    book = Book(chart, bookings, find_courses(threats, most), prices, bound)
    book.spares = spares
    return book


def accept_guard_with(net, bookings, threats, most, prices, bound, spares, told):
    """Return None if a value is a right answer of `guard_with`; otherwise raise PaperError."""
    accept_book(asked_book(net, bookings, threats, most, prices, bound, spares), told)


def least_spares(net, bookings, threats, most, prices, bound, offers, many):
    """Return the first row of offers with which the book closes, and that book; None if there is none."""
    book = asked_offers(net, bookings, threats, most, prices, bound, offers, many)
    for row in offered_rows(offers, many):
        book.spares = row
        entries, course = visit_courses(book)
        if course is None:
            return (row, entries)
    return None


def asked_offers(net, bookings, threats, most, prices, bound, offers, many):
    """Return what the book is kept for, without spares, for arguments that may be wrong."""
    chart = checked_chart(net)
    require_book(chart, bookings, threats, most, prices, bound)
    require(are_spares(chart, offers, MAX_STEPS), "offers")
    require(is_within(many, 0, MAX_SPARES), "many")
    return Book(chart, bookings, find_courses(threats, most), prices, bound)


def offered_rows(offers, many):
    """Return the rows of at most so many offers, in their order."""
    return [tuple([offers[place] for place in row]) for row in rows_of(list(range(len(offers))), many)]


def accept_spares(net, bookings, threats, most, prices, bound, offers, many, told):
    """Return None if a value is a row of offers and a book for it; otherwise raise PaperError."""
    book = asked_offers(net, bookings, threats, most, prices, bound, offers, many)
    if not is_row(told, 2):
        raise PaperError("form")
    if not any([are_same(told[0], row) for row in offered_rows(offers, many)]):
        raise PaperError("row")
    book.spares = told[0]
    accept_book(book, ("kept", told[1]))
