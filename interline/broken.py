"""What a course does to bookings: who is carried how far, and which seats are left."""

from interline.bookings import require_bookings
from interline.charts import checked_chart
from interline.courses import asked_course, departures


def broken(net, bookings, course):
    """Return for each booking None if it is kept, otherwise where, when and why it is broken."""
    chart = checked_chart(net)
    flown = asked_course(chart, course)
    require_bookings(chart, bookings)
    breaks = find_breaks(chart, flown, bookings)
    return tuple([told_break(chart, flown, booking[2], leg, reason)
                  for booking, (leg, reason) in zip(bookings, breaks)])


def told_break(chart, flown, journey, leg, reason):
    """Return (leg, station, time, reason) for a break of a journey, or None if there is none."""
    if leg == len(journey):
        return None
    flight = chart.flights[journey[leg]]
    time = flight.depart if leg == 0 else flown[journey[leg - 1]][1]
    return (leg, flight.start, time, reason)


def find_breaks(chart, flown, bookings):
    """Return for each booking the leg at which it is broken, behind the last one if it is kept, and the reason."""
    breaks = [own_break(chart, flown, journey) for _, _, journey in bookings]
    riders = riders_of(chart, bookings)
    for name in departures(chart, flown):
        unseated = without_seats(chart, bookings, carried(riders[name], breaks), flown[name][2])
        for place in unseated:
            breaks[place] = (bookings[place][2].index(name), "bumped")
    return breaks


def riders_of(chart, bookings):
    """Return for each flight by its name the bookings that have it: their places, and its leg in their journeys."""
    riders = {name: [] for name in chart.flights}
    for place, (_, _, journey) in enumerate(bookings):
        for leg, name in enumerate(journey):
            riders[name].append((place, leg))
    return riders


def own_break(chart, flown, journey):
    """Return the leg at which a journey is broken by itself, and the reason."""
    for leg, name in enumerate(journey):
        if flown[name] is None:
            return (leg, "cancelled")
        least = chart.stations[chart.flights[name].start].least
        if leg > 0 and flown[name][0] < flown[journey[leg - 1]][1] + least:
            return (leg, "missed")
    return (len(journey), None)


def carried(rows, breaks):
    """Return the places of those bookings that have a flight and are carried on it, as far as breaks are known."""
    return [place for place, leg in rows if leg < breaks[place][0]]


def without_seats(chart, bookings, places, seats):
    """Return the places of those travellers of a flight who find no seat."""
    # The lowest class goes first, and in it the last sold.
    order = sorted([(-chart.ranks[bookings[place][1]], -place) for place in places])
    return [-place for _, place in order[:max(0, len(places) - seats)]]


def free_seats(net, bookings, course):
    """Return for each flight the seats that are left behind all who are carried, None if it is cancelled."""
    chart = checked_chart(net)
    flown = asked_course(chart, course)
    require_bookings(chart, bookings)
    free = find_free(chart, flown, bookings, find_breaks(chart, flown, bookings))
    return tuple([free[name] for name in chart.flights])


def find_free(chart, flown, bookings, breaks):
    """Return for each flight by its name the seats that are left, None if it is cancelled."""
    return {name: seats_left(flown[name], carried(rows, breaks)) for name, rows in riders_of(chart, bookings).items()}


def seats_left(told, places):
    """Return the seats of a flight less its travellers, None if it is cancelled."""
    if told is None:
        return None
    return told[2] - len(places)
