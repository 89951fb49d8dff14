"""Room: how many more may be sold so that the book still closes."""

from interline.asking import require, require_name
from interline.book import Book, accept_book, close_book, require_book
from interline.bookings import require_journey
from interline.charts import checked_chart
from interline.courses import find_courses
from interline.errors import PaperError
from interline.kinds import is_integer, is_row, is_within
from interline.limits import MAX_BOOKINGS


def room_for(net, bookings, threats, most, prices, bound, kind, journey, sales):
    """Return the number of sales with which the book closes, and the answer for one more, or None."""
    chart, rows = asked_room(net, bookings, threats, most, prices, bound, kind, journey, sales)
    for number, further in enumerate(sold_further(bookings, kind, journey, sales)):
        answer = close_book(Book(chart, further, rows, prices, bound))
        if answer[0] == "broken":
            return (number - 1, answer)
    return (all_sales(bookings, sales), None)


def asked_room(net, bookings, threats, most, prices, bound, kind, journey, sales):
    """Return the chart of a net and the courses for arguments that may be wrong."""
    chart = checked_chart(net)
    require_book(chart, bookings, threats, most, prices, bound)
    require_name(kind, chart.ranks, "class")
    require_journey(chart, journey)
    require(is_within(sales, 0, MAX_BOOKINGS), "sales")
    return chart, find_courses(threats, most)


def all_sales(bookings, sales):
    """Return how many sales may be asked for at most."""
    return min(sales, MAX_BOOKINGS - len(bookings))


def sold_further(bookings, kind, journey, sales):
    """Return the bookings without a further sale, with one, and so on."""
    names = [booking[0] for booking in bookings]
    numerals = [str(number) for number in range(len(names) + MAX_BOOKINGS)]
    free = [name for name in numerals if name not in names]
    further = tuple([(name, kind, journey) for name in free[:all_sales(bookings, sales)]])
    return [bookings + further[:number] for number in range(len(further) + 1)]


def accept_room(net, bookings, threats, most, prices, bound, kind, journey, sales, told):
    """Return None if the answer in a value is right for one sale more than its number; otherwise raise PaperError."""
    chart, rows = asked_room(net, bookings, threats, most, prices, bound, kind, journey, sales)
    if not is_row(told, 2) or not is_integer(told[0]):
        raise PaperError("form")
    number, answer = told
    last = all_sales(bookings, sales)
    if not -1 <= number <= last or (answer is None) != (number == last):
        raise PaperError("number")
    if answer is None:
        return
    if not is_row(answer, 3):
        raise PaperError("form")
    further = sold_further(bookings, kind, journey, sales)[number + 1]
    accept_book(Book(chart, further, rows, prices, bound), answer)
