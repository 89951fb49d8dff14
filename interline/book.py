"""The book: a plan within a bound for each course, or a course that breaks it."""

from interline.asking import require
from interline.bookings import require_bookings
from interline.charts import checked_chart
from interline.courses import find_courses, require_threats
from interline.errors import PaperError
from interline.kinds import are_same, is_integer, is_row
from interline.plans import best_plan, cheapest_plan, is_plan_paper, no_choices, plan_cost, plan_paper
from interline.rescue import find_damage, require_prices
from interline.standby import flown_with, relieved


class Book:
    """What a book is kept for: bookings, the courses of a net, prices, a bound, and spares that stand by."""

    def __init__(self, chart, bookings, rows, prices, bound):
        self.chart = chart
        self.sold = bookings
        self.rows = rows
        self.prices = prices
        self.bound = bound
        self.spares = ()
        self.visited = {}

    def damage_in(self, course):
        """Return the damage in a course, or raise TooMany."""
        return find_damage(self.chart, flown_with(self.chart, self.spares, course), self.sold, self.prices)

    def plan_in(self, course):
        """Return the cheapest plan of a course, None if it costs more than the bound; or raise TooMany."""
        # A course that takes the same spares of other ones is the same day.
        key = relieved(self.chart, self.spares, course)
        if key not in self.visited:
            best = cheapest_plan(no_choices(self.damage_in(course)), self.bound)
            self.visited[key] = None if best is None else best.made
        return self.visited[key]


def require_book(chart, bookings, threats, most, prices, bound):
    """Raise ArgumentError for the first wrong argument of a guard."""
    require_days(chart, bookings, threats, most, prices)
    require(is_integer(bound) and bound >= 0, "bound")


def require_days(chart, bookings, threats, most, prices):
    """Raise ArgumentError for the first wrong argument of those that tell bookings, courses and prices."""
    require_bookings(chart, bookings)
    require_threats(chart, threats, most)
    require_prices(chart, prices)


def guard(net, bookings, threats, most, prices, bound):
    """Return ("kept", book), or ("broken", course, paper) for the first course that breaks the bound."""
    return close_book(asked_book(net, bookings, threats, most, prices, bound))


def asked_book(net, bookings, threats, most, prices, bound):
    """Return what the book is kept for, for arguments that may be wrong."""
    chart = checked_chart(net)
    require_book(chart, bookings, threats, most, prices, bound)
    return Book(chart, bookings, find_courses(threats, most), prices, bound)


def close_book(book):
    """Return the answer of a guard, or raise TooMany."""
    entries, course = visit_courses(book)
    if course is None:
        return ("kept", entries)
    return ("broken", course, plan_paper(no_choices(book.damage_in(course)), book.bound + 1))


def visit_courses(book):
    """Return the entries up to the first course that breaks the bound, and this course, None if there is none."""
    entries = []
    for course in book.rows:
        plan = book.plan_in(course)
        if plan is None:
            return tuple(entries), course
        entries.append((course, plan))
    return tuple(entries), None


def accept_guard(net, bookings, threats, most, prices, bound, told):
    """Return None if a value is a right answer of a guard; otherwise raise PaperError."""
    accept_book(asked_book(net, bookings, threats, most, prices, bound), told)


def accept_book(book, told):
    """Raise PaperError unless a value is a right answer of a guard, with any course that is broken."""
    if is_row(told, 2) and told[0] == "kept" and is_row(told[1], len(book.rows)):
        for course, entry in zip(book.rows, told[1]):
            accept_entry(book, course, entry)
    elif is_row(told, 3) and told[0] == "broken":
        accept_broken(book, told[1], told[2])
    else:
        raise PaperError("form")


def accept_entry(book, course, entry):
    """Raise PaperError unless a value is the entry of a book for a course."""
    if not is_row(entry, 2) or not are_same(entry[0], course):
        raise PaperError("course")
    cost = plan_cost(book.damage_in(course), entry[1])
    if cost is None:
        raise PaperError("plan")
    if cost > book.bound:
        raise PaperError("cost")


def accept_broken(book, course, paper):
    """Raise PaperError unless a value is a course and a paper that no plan of it keeps to the bound."""
    if not any([are_same(course, row) for row in book.rows]):
        raise PaperError("course")
    if not is_plan_paper(no_choices(book.damage_in(course)), book.bound + 1, paper):
        raise PaperError("paper")


def worst(net, bookings, threats, most, prices):
    """Return the greatest of the least costs over all courses, and the first course that has it."""
    chart = checked_chart(net)
    require_days(chart, bookings, threats, most, prices)
    book = Book(chart, bookings, find_courses(threats, most), prices, 0)
    found = []
    for place, course in enumerate(book.rows):
        found.append((-best_plan(no_choices(book.damage_in(course))).cost, place))
    cost, place = min(found)
    return (-cost, book.rows[place])
