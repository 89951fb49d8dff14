"""Logs of sales: bookings, a waiting list, and what becomes of both entry by entry."""

from interline.asking import require
from interline.charts import checked_chart
from interline.errors import LogError
from interline.inventory import stock_of
from interline.kinds import is_known, is_row, is_short
from interline.limits import MAX_BOOKINGS, MAX_LOG
from interline.routes import is_journey


class Desk:
    """The bookings that are sold, in order, and those on the waiting list."""

    def __init__(self, chart):
        self.chart = chart
        self.stock = stock_of(chart, ())
        self.sold = []
        self.waiting = []

    def fault(self, entry):
        """Return the reason why an entry cannot be done, or an empty string."""
        if is_row(entry, 4) and (entry[0] == "sell" or entry[0] == "wait"):
            return self.fault_of_booking(entry) or self.fault_of_room(entry)
        if is_row(entry, 2) and (entry[0] == "cancel" or entry[0] == "leave"):
            rows = self.sold if entry[0] == "cancel" else self.waiting
            return "" if is_known(entry[1], names_of(rows)) else "unknown"
        return "entry"

    def fault_of_booking(self, entry):
        """Return the reason why an entry tells no new booking, or an empty string."""
        _, name, cabin, journey = entry
        rows = self.sold + self.waiting
        if not isinstance(name, str) or name in names_of(rows):
            return "name"
        if not is_known(cabin, self.chart.ranks):
            return "class"
        if not is_journey(self.chart, journey):
            return "journey"
        if len(rows) >= MAX_BOOKINGS:
            return "many"
        return ""

    def fault_of_room(self, entry):
        """Return the reason why a new booking cannot be sold or cannot wait, or an empty string."""
        free = self.is_available(entry[1:])
        if entry[0] == "sell" and not free:
            return "seats"
        if entry[0] == "wait" and free:
            return "room"
        return ""

    def is_available(self, booking):
        """Tell whether a booking is available on all its flights."""
        _, cabin, journey = booking
        return self.stock.takes(journey, self.chart.ranks[cabin])

    def do(self, entry):
        """Do an entry that can be done, and return the names that it puts among the bookings."""
        if entry[0] == "sell":
            self.sell(entry[1:])
            return (entry[1],)
        if entry[0] == "wait":
            self.waiting.append(entry[1:])
            return ()
        if entry[0] == "leave":
            self.waiting = without(self.waiting, entry[1])
            return ()
        self.sold = without(self.sold, entry[1])
        self.stock = stock_of(self.chart, self.sold)
        return self.call_waiting()

    def sell(self, booking):
        """Put a booking behind the others."""
        _, cabin, journey = booking
        self.sold.append(booking)
        self.stock = self.stock.behind(journey, self.chart.ranks[cabin])

    def call_waiting(self):
        """Sell in order what is available of the waiting list, and return the names."""
        names = []
        for booking in list(self.waiting):
            if self.is_available(booking):
                self.waiting = without(self.waiting, booking[0])
                self.sell(booking)
                names.append(booking[0])
        return tuple(names)


def names_of(rows):
    """Return the names of bookings."""
    return [booking[0] for booking in rows]


def without(rows, name):
    """Return the bookings but the one with a name."""
    return [booking for booking in rows if booking[0] != name]


def replay(net, log):
    """Return the bookings and the waiting list behind a log."""
    desk, _ = behind_log(net, log)
    return (tuple(desk.sold), tuple(desk.waiting))


def history(net, log):
    """Return for each entry of a log the names that it puts among the bookings."""
    _, told = behind_log(net, log)
    return told


def behind_log(net, log):
    """Return the desk behind a log, and what each entry put among the bookings."""
    chart = checked_chart(net)
    require(is_short(log, MAX_LOG), "log")
    desk = Desk(chart)
    told = []
    for number, entry in enumerate(log):
        reason = desk.fault(entry)
        if reason != "":
            raise LogError(number, reason)
        told.append(desk.do(entry))
    return desk, tuple(told)
