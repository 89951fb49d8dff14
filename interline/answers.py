"""What a session answers to its lines, form by form."""

from interline.aircraft import least_tails, swaps
from interline.book import guard, worst
from interline.broken import broken
from interline.calendar import board
from interline.causes import blame
from interline.commands import read_line
from interline.courses import actual, courses
from interline.crews import least_duties
from interline.days import play
from interline.gates import least_gates
from interline.holds import least_holds
from interline.limits import MAX_BOOKINGS, MAX_STEPS, MAX_TIME
from interline.mending import least_mend
from interline.promises import promise, safest
from interline.quotes import quote
from interline.room import room_for
from interline.values import seat_values, weak_courses
from interline.words import write_net


def told(parts):
    """Return a line of words, numbers and None."""
    return " ".join(["none" if part is None else str(part) for part in parts])


def told_course(course):
    """Return the words of a course, which are a line or stand at the end of one."""
    return told(["course"] + [part for event in course for part in event])


def answer_text(session):
    """Answer the text of the net."""
    return write_net(session.net).splitlines()


def answer_sell(session, name, cabin, journey):
    """Sell a ticket and answer its price."""
    return [told(("paid", session.office.sell(name, cabin, journey)))]


def answer_refund(session, name):
    """Take back a ticket and answer what is given back."""
    return [told(("back", session.office.refund(name)))]


def answer_ledger(session):
    """Answer the ledger."""
    return [told_ledger(session.office.ledger())]


def told_ledger(ledger):
    """Return the line of a ledger."""
    return told(("ledger", *ledger))


def answer_sold(session):
    """Answer the bookings."""
    return [told((name, cabin, *journey)) for name, cabin, journey in session.office.bookings()]


def answer_cancel(session, flight):
    """Put a cancelled flight behind the threats."""
    return put_threat(session, ("cancel", flight))


def answer_late(session, flight, minutes):
    """Put a late flight behind the threats."""
    return put_threat(session, ("late", flight, minutes))


def answer_smaller(session, flight, kind):
    """Put a flight with a smaller plane behind the threats."""
    return put_threat(session, ("smaller", flight, kind))


def put_threat(session, event):
    """Put an event behind the threats and answer its place."""
    threats = (*session.threats, event)
    courses(session.net, threats, 0)
    session.threats = threats
    return [told(("threat", len(threats) - 1))]


def answer_events(session, most):
    """Set the greatest number of events."""
    session.most = most
    return ["ok"]


def answer_bound(session, bound):
    """Set the bound."""
    session.bound = bound
    return ["ok"]


def answer_price(session, cabin, minute, back):
    """Set the prices of a class."""
    minutes, backs = session.prices
    rank = session.office.chart.ranks[cabin]
    session.prices = (with_price(minutes, rank, minute), with_price(backs, rank, back))
    return ["ok"]


def with_price(row, rank, price):
    """Return a row of prices with another one for the class of a rank."""
    return row[:rank] + (price,) + row[rank + 1:]


def answer_day(session, course):
    """Answer what becomes of the flights in a course."""
    return [told((name, None) if row is None else (name, *row))
            for name, row in zip(session.office.chart.flights, actual(session.net, course))]


def answer_broken(session, course):
    """Answer which bookings a course breaks."""
    bookings = session.office.bookings()
    return [told((booking[0], *row)) for booking, row in zip(bookings, broken(session.net, bookings, course))
            if row is not None]


def answer_mend(session, course):
    """Answer the least cost of all plans for a course."""
    cost, _, _ = least_mend(session.net, session.office.bookings(), course, session.prices)
    return [told(("least", cost))]


def answer_guard(session):
    """Answer whether the book closes."""
    answer = guard(session.net, session.office.bookings(), session.threats, session.most, session.prices, session.bound)
    if answer[0] == "kept":
        return [told(("kept", len(answer[1])))]
    return [told(("broken", told_course(answer[1])))]


def answer_worst(session):
    """Answer the greatest of the least costs, and its course."""
    cost, course = worst(session.net, session.office.bookings(), session.threats, session.most, session.prices)
    return [told(("worst", cost, told_course(course)))]


def answer_weak(session):
    """Answer the weak courses."""
    rows = weak_courses(session.net, session.office.bookings(), session.threats, session.most, session.prices,
                        session.bound)
    return [told_course(course) for course in rows] or ["none"]


def answer_room(session, cabin, journey):
    """Answer how many more may be sold so that the book still closes."""
    number, _ = room_for(session.net, session.office.bookings(), session.threats, session.most, session.prices,
                         session.bound, cabin, journey, MAX_BOOKINGS)
    return [told(("room", number))]


def answer_quote(session, cabin, ends, stops):
    """Answer the cheapest offer."""
    start, end = ends
    offer, _ = quote(session.net, session.office.bookings(), cabin, start, end, 0, MAX_TIME, stops)
    if offer is None:
        return ["none"]
    price, journey, _ = offer
    return [told(("price", price, *journey))]


def answer_board(session, station, day):
    """Answer what departs and arrives at a station on a day."""
    return [told(row) for row in board(session.net, station, day)]


def answer_tails(session):
    """Answer how many tails of each type are enough, and how many swaps there are."""
    rows = [told(row) for row in least_tails(session.net)]
    return rows + [told(("swaps", len(swaps(session.net))))]


def answer_duties(session, sits):
    """Answer how few duties there can be."""
    duties, _ = least_duties(session.net, sits)
    return [told(("duties", len(duties)))]


def answer_gates(session, station, lead):
    """Answer how many gates are enough, and when so many are held."""
    number, course, time = least_gates(session.net, station, lead, session.threats, session.most)
    return [told(("gates", number, time, told_course(course)))]


def answer_promise(session, journey):
    """Answer whether a course breaks a journey."""
    answer = promise(session.net, journey, session.threats, session.most)
    if answer[0] == "kept":
        _, time, course = answer
        return [told(("kept", time, told_course(course)))]
    _, course, leg, reason = answer
    return [told(("broken", leg, reason, told_course(course)))]


def answer_safest(session, start, end, time):
    """Answer the journey that no course breaks and that arrives first at the latest."""
    answer = safest(session.net, start, end, time, session.threats, session.most)
    if answer is None:
        return ["none"]
    latest, journey, _ = answer
    return [told(("kept", latest, *journey))]


def answer_seats(session, course):
    """Answer what a seat more is worth on each flight."""
    numbers = seat_values(session.net, session.office.bookings(), course, session.prices)
    return [told(row) for row in zip(session.office.chart.flights, numbers)]


def answer_holds(session, minutes, course):
    """Answer the least cost where one of the first flights may be held, and the flight that is."""
    offers = tuple([(name, minutes) for name in list(session.office.chart.flights)[:MAX_STEPS]])
    cost, row = least_holds(session.net, session.office.bookings(), course, session.prices, offers, 1)
    held = [name for name, _ in row]
    return [told(("least", cost, *held))]


def answer_play(session, course):
    """Answer the least cost of a day, and the ledger behind it."""
    cost, _, ledgers, _ = play(session.net, session.office.log(), course, session.prices)
    # Where no deed is done, the ledger stays as it is.
    ledger = ledgers[-1] if ledgers != () else session.office.ledger()
    return [told(("least", cost)), told_ledger(ledger)]


def answer_blame(session, course):
    """Answer what each event of a course is the cause of."""
    return [told((*event, *numbers)) for event, numbers in zip(course, blame(session.net, course))]


ANSWERS = {
    "text": answer_text,
    "sell": answer_sell,
    "refund": answer_refund,
    "ledger": answer_ledger,
    "sold": answer_sold,
    "threat cancel": answer_cancel,
    "threat late": answer_late,
    "threat smaller": answer_smaller,
    "events": answer_events,
    "bound": answer_bound,
    "price": answer_price,
    "day": answer_day,
    "broken": answer_broken,
    "mend": answer_mend,
    "guard": answer_guard,
    "worst": answer_worst,
    "weak": answer_weak,
    "room": answer_room,
    "quote": answer_quote,
    "board": answer_board,
    "tails": answer_tails,
    "duties": answer_duties,
    "gates": answer_gates,
    "promise": answer_promise,
    "safest": answer_safest,
    "seats": answer_seats,
    "holds": answer_holds,
    "play": answer_play,
    "blame": answer_blame,
}


def answer_to(session, line):
    """Return the lines that a session answers to a line, or raise an error."""
    chart = None if session.office is None else session.office.chart
    form, fields = read_line(line, chart, session.threats)
    action = ANSWERS[form]
    return action(session, *fields)
