"""An office that sells tickets, and its ledger."""

from interline.asking import require
from interline.charts import checked_chart
from interline.coupons import Ticket, coupons_by, coupons_of, value_of
from interline.errors import LogError, SaleError
from interline.fares import construction
from interline.inventory import stock_of
from interline.kinds import are_unlike, is_known, is_row, is_short
from interline.limits import MAX_BOOKINGS, MAX_LOG, MAX_STOPS
from interline.routes import is_journey


class Office:
    """Sells tickets for the flights of a net, and keeps a ledger of what becomes of them."""

    def __init__(self, net):
        self.chart = checked_chart(net)
        self.tickets = {}
        self.gone = []
        self.deeds = []
        self.cash = 0
        self.unearned = 0
        self.earned = 0
        self.fees = 0
        self.kept = 0

    def sell(self, name, cabin, journey):
        """Sell a ticket and return its price."""
        demand(isinstance(name, str) and name not in self.tickets, "name")
        demand(is_known(cabin, self.chart.ranks), "class")
        demand(len(self.tickets) < MAX_BOOKINGS, "many")
        ticket = Ticket(name, cabin)
        coupons = self.new_coupons(ticket, journey)
        price = value_of(coupons)
        ticket.coupons.extend(coupons)
        self.tickets[name] = ticket
        self.cash += price
        self.unearned += price
        self.deeds.append(("sell", name, cabin, journey))
        return price

    def fly(self, flight):
        """Fly a flight and return the names of the tickets of those who fly on it."""
        demand(is_known(flight, self.chart.flights) and flight not in self.gone, "flight")
        names = []
        for ticket in self.tickets.values():
            coupons = ticket.open_coupons()
            if coupons != [] and coupons[0].flight == flight:
                coupons[0].state = "flown"
                self.unearned -= coupons[0].value
                self.earned += coupons[0].value
                names.append(ticket.name)
        self.gone.append(flight)
        self.deeds.append(("fly", flight))
        return tuple(names)

    def change(self, name, journey):
        """Exchange all open coupons of a ticket for those of another journey, and return what is paid."""
        ticket = self.known(name)
        demand(not ticket.has_flown(), "flown")
        given = ticket.open_coupons()
        demand(given != [], "open")
        coupons = self.new_coupons(ticket, journey)
        fee = max([self.fee_for(coupon) for coupon in given])
        more = value_of(coupons) - value_of(given)
        ticket.exchange("changed", coupons)
        self.cash += fee + max(0, more)
        self.fees += fee
        self.kept += max(0, -more)
        self.unearned += more
        self.deeds.append(("change", name, journey))
        return fee + max(0, more)

    def refund(self, name):
        """Take back all open coupons of a ticket, and return what is given back."""
        ticket = self.known(name)
        given = ticket.open_coupons()
        demand(given != [], "open")
        back = sum([self.back_for(coupon) for coupon in given])
        value = value_of(given)
        ticket.exchange("back", [])
        self.cash -= back
        self.unearned -= value
        self.kept += value - back
        self.deeds.append(("refund", name))
        return back

    def mend(self, name, row):
        """Give a broken ticket's money back, or other flights for its open coupons, and return their value."""
        ticket = self.known(name)
        given = ticket.open_coupons()
        demand(given != [], "open")
        demand(row is None or self.leads_home(given, row), "journey")
        demand(row is None or not self.has_gone(row), "gone")
        value = value_of(given)
        if row is None:
            ticket.exchange("back", [])
            self.cash -= value
            self.unearned -= value
        else:
            ticket.exchange("mended", coupons_of(self.chart.flights_of(row), value, None))
        self.deeds.append(("mend", name, row))
        return value

    def ledger(self):
        """Return (cash, unearned, earned, fees, kept)."""
        return (self.cash, self.unearned, self.earned, self.fees, self.kept)

    def ticket(self, name):
        """Return the class and the coupons of a ticket."""
        found = self.known(name)
        return (found.cabin, tuple([coupon.row() for coupon in found.coupons]))

    def names(self):
        """Return the names of all tickets in the order in which they were sold."""
        return tuple(self.tickets)

    def bookings(self):
        """Return the bookings of the tickets whose open coupons are for a journey of the net."""
        rows = [ticket.booking() for ticket in self.tickets.values()]
        return tuple([row for row in rows if is_journey(self.chart, row[2])])

    def log(self):
        """Return all deeds that the office has done, in order."""
        return tuple(self.deeds)

    def known(self, name):
        """Return the ticket with a name, or raise SaleError."""
        demand(is_known(name, self.tickets), "unknown")
        return self.tickets[name]

    def new_coupons(self, ticket, journey):
        """Return the coupons of a journey that may be sold now to a ticket, or raise SaleError."""
        demand(is_journey(self.chart, journey), "journey")
        demand(not self.has_gone(journey), "gone")
        demand(self.stock_beside(ticket).takes(journey, self.chart.ranks[ticket.cabin]), "seats")
        flights = self.chart.flights_of(journey)
        found = construction(self.chart, flights, ticket.cabin)
        demand(found is not None, "fare")
        return coupons_by(self.chart, flights, found[1])

    def has_gone(self, row):
        """Tell whether one of some flights is gone."""
        return any([name in self.gone for name in row])

    def stock_beside(self, ticket):
        """Return the stock that the open coupons of all other tickets leave."""
        return stock_of(self.chart, [other.booking() for name, other in self.tickets.items() if name != ticket.name])

    def fee_for(self, coupon):
        """Return the fee for the change of a coupon."""
        if coupon.fare is None:
            return 0
        return self.chart.fares[coupon.fare].fee

    def back_for(self, coupon):
        """Return what is given back for a coupon."""
        if coupon.fare is None:
            return coupon.value
        return coupon.value * self.chart.fares[coupon.fare].back // 100

    def leads_home(self, given, row):
        """Tell whether a value is a row of flights from where open coupons start to where they end."""
        if not is_short(row, MAX_STOPS + 1) or row == ():
            return False
        if not all([is_known(name, self.chart.flights) for name in row]) or not are_unlike(row):
            return False
        flights = self.chart.flights_of(row)
        if not all([before.end == flight.start for before, flight in zip(flights, flights[1:])]):
            return False
        start = self.chart.flights[given[0].flight].start
        return flights[0].start == start and flights[-1].end == self.chart.flights[given[-1].flight].end


def demand(holds, reason):
    """Raise SaleError with a reason unless something holds."""
    if not holds:
        raise SaleError(reason)


def reopen(net, log):
    """Return an office in which the deeds of a log are done."""
    office, _ = behind_log(net, log)
    return office


def takings(net, log):
    """Return for each deed of a log the ledger behind it."""
    _, ledgers = behind_log(net, log)
    return ledgers


def behind_log(net, log):
    """Return the office behind a log, and the ledger behind each of its deeds."""
    office = Office(net)
    require(is_short(log, MAX_LOG), "log")
    ledgers = []
    for number, entry in enumerate(log):
        if not is_deed(entry):
            raise LogError(number, "entry")
        try:
            do_deed(office, entry)
        except SaleError as why:
            raise LogError(number, why.reason)
        ledgers.append(office.ledger())
    return office, tuple(ledgers)


def is_deed(entry):
    """Tell whether a value has the form of a deed, whatever follows its first part."""
    if is_row(entry, 2):
        return entry[0] == "fly" or entry[0] == "refund"
    if is_row(entry, 3):
        return entry[0] == "change" or entry[0] == "mend"
    return is_row(entry, 4) and entry[0] == "sell"


def do_deed(office, entry):
    """Let an office do a deed."""
    if entry[0] == "sell":
        office.sell(entry[1], entry[2], entry[3])
    elif entry[0] == "fly":
        office.fly(entry[1])
    elif entry[0] == "change":
        office.change(entry[1], entry[2])
    elif entry[0] == "refund":
        office.refund(entry[1])
    else:
        office.mend(entry[1], entry[2])
