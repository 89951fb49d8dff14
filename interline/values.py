"""What a seat more is worth on a day that breaks, and how events share what they cost together."""

from interline.book import Book, require_book
from interline.charts import checked_chart
from interline.courses import find_courses, flown_in
from interline.mending import asked_day
from interline.picking import rows_of
from interline.plans import best_plan, no_choices
from interline.rescue import find_damage


def seat_values(net, bookings, course, prices):
    """Return for each flight by how much the course costs less with one seat more on it, None if it is cancelled."""
    chart = asked_day(net, bookings, course, prices)
    flown = flown_in(chart, course)
    cost = least_cost(chart, flown, bookings, prices)
    found = []
    for name in chart.flights:
        if flown[name] is None:
            found.append(None)
        else:
            found.append(cost - least_cost(chart, with_seat(flown, name), bookings, prices))
    return tuple(found)


def with_seat(flown, name):
    """Return what becomes of the flights where one of them has one seat more."""
    depart, arrive, seats = flown[name]
    found = dict(flown)
    found[name] = (depart, arrive, seats + 1)
    return found


def least_cost(chart, flown, bookings, prices):
    """Return the least cost of all plans where flights are flown so, or raise TooMany."""
    return best_plan(no_choices(find_damage(chart, flown, bookings, prices))).cost


def fair_shares(net, bookings, course, prices):
    """Return the sums of the parts of the events over all their orders, and the number of orders."""
    chart = asked_day(net, bookings, course, prices)
    costs = {}
    for row in rows_of(list(range(len(course))), len(course)):
        part = tuple([course[place] for place in row])
        costs[row] = least_cost(chart, flown_in(chart, part), bookings, prices)
    orders = all_orders(len(course))
    sums = [sum([part_of(costs, order, place) for order in orders]) for place in range(len(course))]
    return (tuple(sums), len(orders))


def all_orders(many):
    """Return all orders of so many places."""
    rows = [()]
    for _ in range(many):
        rows = [(*row, place) for row in rows for place in range(many) if place not in row]
    return rows


def part_of(costs, order, place):
    """Return the part of the event in a place where events happen in an order."""
    before = order[:order.index(place)]
    return costs[tuple(sorted((*before, place)))] - costs[tuple(sorted(before))]


def weak_courses(net, bookings, threats, most, prices, bound):
    """Return the courses that cost more than a bound, but those with all events of another one that does."""
    chart = checked_chart(net)
    require_book(chart, bookings, threats, most, prices, bound)
    book = Book(chart, bookings, find_courses(threats, most), prices, bound)
    found = []
    for course in book.rows:
        if not any([has_all(course, other) for other in found]):
            if best_plan(no_choices(book.damage_in(course))).cost > bound:
                found.append(course)
    return tuple(found)


def has_all(course, other):
    """Tell whether a course has all events of another one."""
    return all([event in course for event in other])
