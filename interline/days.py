"""Days: what an office does on a day that breaks, and what its ledger tells behind each deed."""

from interline.asking import require
from interline.broken import find_breaks
from interline.courses import asked_course, departures
from interline.errors import PaperError
from interline.plans import best_plan, no_choices, plan_cost
from interline.rescue import find_damage, require_prices
from interline.routes import is_journey
from interline.tickets import do_deed, reopen


class Day:
    """An office, a course of its flights, and what it breaks."""

    def __init__(self, office, course, prices):
        self.office = office
        self.sold = office.bookings()
        self.flown = asked_course(office.chart, course)
        require_prices(office.chart, prices)
        self.breaks = find_breaks(office.chart, self.flown, self.sold)
        self.damage = find_damage(office.chart, self.flown, self.sold, prices)

    def deeds_of(self, rows):
        """Return the deeds of the day, where each broken booking has its way, by its place."""
        deeds = [self.mending(place, rows) for place, (leg, _) in enumerate(self.breaks) if leg == 0]
        for name in departures(self.office.chart, self.flown):
            deeds.append(("fly", name))
            deeds.extend([self.mending(place, rows) for place, (leg, _) in enumerate(self.breaks)
                          if place in rows and leg > 0 and self.sold[place][2][leg - 1] == name])
        return deeds

    def mending(self, place, rows):
        """Return the deed that mends a booking."""
        return ("mend", self.sold[place][0], rows[place])

    def home(self, place, rows):
        """Return the name of a booking, and when the traveller is at the end of the journey, None for money back."""
        name, _, journey = self.sold[place]
        row = rows.get(place, journey)
        return (name, None if row is None else self.flown[row[-1]][1])


def play(net, log, course, prices):
    """Return the least cost of a day, the deeds, the ledgers behind them, and when the travellers are home."""
    day = asked_day(net, log, course, prices)
    best = best_plan(no_choices(day.damage))
    return played(day, best.cost, best.made)


def asked_day(net, log, course, prices):
    """Return the day for arguments that may be wrong."""
    office = reopen(net, log)
    require(office.gone == [] and all([is_whole(office, name) for name in office.names()]), "log")
    return Day(office, course, prices)


def is_whole(office, name):
    """Tell whether the open coupons of a ticket, if it has any, are for a journey."""
    row = office.tickets[name].booking()[2]
    return row == () or is_journey(office.chart, row)


def played(day, cost, plan):
    """Return what a day with a plan comes to; the office of the day does the deeds."""
    rows = {place: row for place, row in zip(day.damage.places, plan)}
    deeds = day.deeds_of(rows)
    ledgers = []
    for deed in deeds:
        do_deed(day.office, deed)
        ledgers.append(day.office.ledger())
    homes = [day.home(place, rows) for place in range(len(day.sold))]
    return (cost, tuple(deeds), tuple(ledgers), tuple(homes))


def play_plan(net, log, course, prices, plan):
    """Return what `play` returns, for a given plan."""
    day = asked_day(net, log, course, prices)
    cost = plan_cost(day.damage, plan)
    if cost is None:
        raise PaperError("plan")
    return played(day, cost, plan)
