"""What a journey costs: constructions of fares, and prices shared among flights."""

from interline.asking import require, require_name
from interline.bookings import require_journey
from interline.charts import checked_chart
from interline.errors import PaperError
from interline.kinds import are_integers, is_row, is_within
from interline.limits import MAX_COIN


def construct(net, journey, cabin):
    """Return the least price of a journey in a class and its first construction, or None."""
    chart, flights = asked_flights(net, journey, cabin)
    return construction(chart, flights, cabin)


def asked_flights(net, journey, cabin):
    """Return the chart and the flights of a journey for arguments that may be wrong."""
    chart = checked_chart(net)
    require_journey(chart, journey)
    require_name(cabin, chart.ranks, "class")
    return chart, chart.flights_of(journey)


def construction(chart, flights, cabin):
    """Return the least price of flights in a class and the first construction that has it, or None."""
    table = find_table(chart, flights, cabin)
    if table[0] is None:
        return None
    parts = []
    place = 0
    while place < len(flights):
        size, name = first_part(chart, flights[place:], cabin, table[place:])
        parts.append((size, name))
        place += size
    return (table[0][0], tuple(parts))


def first_part(chart, flights, cabin, table):
    """Return the size and the fare of the first part that leads to the first entry of a table."""
    found = [(size, name) for entry, size, name in first_parts(chart, flights, cabin, table[1:])
             if entry == table[0]]
    return found[0]


def first_parts(chart, flights, cabin, behind):
    """Return each way to begin a construction, in order: the entry that it makes, the size, the fare.

    The entries behind the first place are given.
    """
    found = []
    for size, entry in enumerate(behind, start=1):
        if entry is not None:
            price, parts = entry
            for fare in fitting(chart, flights[:size], cabin):
                found.append(((price + fare.price, parts + 1), size, fare.name))
    return found


def fitting(chart, part, cabin):
    """Return the fares that fit a part of a journey in a class, in the order of the net."""
    return [fare for fare in chart.fares.values()
            if fare.cabin == cabin and fare.start == part[0].start and fare.end == part[-1].end
            and len(part) <= fare.stops + 1]


def price_table(net, journey, cabin):
    """Return for each place of a journey the least price and the fewest parts from there on."""
    chart, flights = asked_flights(net, journey, cabin)
    return tuple(find_table(chart, flights, cabin))


def find_table(chart, flights, cabin):
    """Return the entries of the price table of flights in a class."""
    table = [(0, 0)]
    for place in reversed(range(len(flights))):
        table = [first_entry(chart, flights[place:], cabin, table), *table]
    return table


def first_entry(chart, flights, cabin, behind):
    """Return the entry ahead of some entries, as these make it."""
    return min([entry for entry, _, _ in first_parts(chart, flights, cabin, behind)], default=None)


def accept_price_table(net, journey, cabin, table):
    """Return None if a value is the price table; otherwise raise PaperError."""
    chart, flights = asked_flights(net, journey, cabin)
    if not is_row(table, len(flights) + 1) or not all([is_entry(entry) for entry in table]):
        raise PaperError("form")
    if table[-1] != (0, 0):
        raise PaperError("entry")
    for place in range(len(flights)):
        if table[place] != first_entry(chart, flights[place:], cabin, table[place + 1:]):
            raise PaperError("entry")


def is_entry(value):
    """Tell whether a value is None or a pair of integers."""
    return value is None or (are_integers(value) and len(value) == 2)


def dear(net, journey, cabin):
    """Return the place, the size and the name for each fare that is dear for a part of a journey."""
    chart, flights = asked_flights(net, journey, cabin)
    found = []
    for place in range(len(flights)):
        for size in range(1, len(flights) - place + 1):
            part = flights[place:place + size]
            found.extend([(place, size, name) for name in dear_fares(chart, part, cabin)])
    return tuple(found)


def dear_fares(chart, part, cabin):
    """Return the names of the fares that fit a part but cost more than a construction of it."""
    least = find_table(chart, part, cabin)[0]
    return [fare.name for fare in fitting(chart, part, cabin) if least[0] < fare.price]


def shares(price, weights):
    """Return the shares of a price by weights, so that every coin stands once."""
    require(is_within(price, 0, 4 * MAX_COIN), "price")
    require(are_weights(weights), "weights")
    parts = [divmod(price * weight, sum(weights)) for weight in weights]
    told = [share for share, _ in parts]
    order = sorted([(-rest, place) for place, (_, rest) in enumerate(parts)])
    left = price - sum(told)
    for _, place in order[:left]:
        told[place] += 1
    return tuple(told)


def are_weights(value):
    """Tell whether a value is a tuple of one to four weights."""
    if not isinstance(value, tuple) or not 1 <= len(value) <= 4:
        return False
    return all([is_within(weight, 1, 20000) for weight in value])
