"""The ways of broken bookings: money back, or other flights to where their journeys end."""

from interline.asking import require
from interline.broken import find_breaks, find_free, told_break
from interline.errors import TooMany
from interline.kinds import is_row, is_within
from interline.limits import MAX_COIN, MAX_WAIT, MAX_WAYS
from interline.routes import rows_to


class Damage:
    """What a course has broken: the places of the broken bookings, their ways, and the free seats of flights."""

    def __init__(self, places, ways, free):
        self.places = places
        self.ways = ways
        self.free = free


def require_prices(chart, value):
    """Raise ArgumentError unless a value is prices of the net."""
    require(is_row(value, 2) and all([are_prices(chart, part) for part in value]), "prices")


def are_prices(chart, value):
    """Tell whether a value is a tuple of one amount of money for each class."""
    return is_row(value, len(chart.ranks)) and all([is_within(price, 0, MAX_COIN) for price in value])


def find_damage(chart, flown, bookings, prices):
    """Return the damage to bookings where flights are flown so, or raise TooMany."""
    breaks = find_breaks(chart, flown, bookings)
    free = find_free(chart, flown, bookings, breaks)
    flights = chart.flights_of([name for name, seats in free.items() if seats is not None and seats > 0])
    after = {before.name: [flight for flight in flights if can_go_on(chart, flown, before, flight)]
             for before in flights}
    kept = {}
    places = []
    rows = []
    for place, (leg, reason) in enumerate(breaks):
        _, cabin, journey = bookings[place]
        told = told_break(chart, flown, journey, leg, reason)
        if told is not None:
            key = (told[1], first_departure(chart, told), chart.flights[journey[-1]].end)
            # Those who are broken alike have the same journeys, so these are searched once.
            if key not in kept:
                kept[key] = rows_home(flown, flights, after, key)
            places.append(place)
            rows.append(priced_ways(flown, kept[key], chart.flights[journey[-1]].arrive,
                                    [part[chart.ranks[cabin]] for part in prices]))
    return Damage(places, rows, free)


def first_departure(chart, told):
    """Return from when on a traveller with a break may depart."""
    leg, station, time, _ = told
    return time if leg == 0 else time + chart.stations[station].least


def rows_home(flown, flights, after, key):
    """Return all rows of flights from a station at a time that come to an end at last, and not before."""
    start, time, end = key
    first = [[flight] for flight in flights if flight.start == start and flown[flight.name][0] >= time]
    rows = rows_to(first, after, end)
    # The money back is a way, too.
    if len(rows) >= MAX_WAYS:
        raise TooMany("ways")
    return rows


def can_go_on(chart, flown, before, flight):
    """Tell whether a flight departs where another one ends, in time behind it, but not too late."""
    if flight.start != before.end:
        return False
    return chart.stations[flight.start].least <= flown[flight.name][0] - flown[before.name][1] <= MAX_WAIT


def priced_ways(flown, rows, told_arrival, parts):
    """Return the ways in their order as (cost, journey), with None for the money back."""
    minute, back = parts
    ways = [(back, ())]
    for row in rows:
        late = max(0, flown[row[-1].name][1] - told_arrival)
        ways.append((late * minute, tuple([flight.name for flight in row])))
    return [(cost, None if journey == () else journey) for cost, journey in sorted(ways)]
