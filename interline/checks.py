"""The rules of nets, asked in the order in which they are told."""

from interline.errors import NetError
from interline.forms import CLASSES, FARES, FIELDS, FLIGHTS, STATIONS, TAILS, TYPES
from interline.kinds import are_integers, are_strings, is_integer, is_row
from interline.limits import MAX_CLASSES, MAX_COIN, MAX_FARES, MAX_FLIGHTS, MAX_NAME
from interline.limits import MAX_STATIONS, MAX_STOPS, MAX_TAILS, MAX_TIME, MAX_TYPES
from interline.tokens import is_name


def check(net):
    """Return None for a net that keeps all rules; raise NetError for the first one that is broken."""
    if not has_shape(net):
        raise NetError((), "shape")
    check_numbers(net)
    for part, rows in enumerate(net):
        for place in range(len(rows)):
            reason = row_fault(net, part, place)
            if reason != "":
                raise NetError((part, place), reason)
    flown = flown_before(net, len(net[TAILS]))
    for place, flight in enumerate(net[FLIGHTS]):
        if flight[0] not in flown:
            raise NetError((FLIGHTS, place), "alone")


def is_net(value):
    """Tell whether a value is a net that keeps all rules."""
    try:
        check(value)
    except NetError:
        return False
    return True


def check_numbers(net):
    """Raise NetError for the first part that has too many rows, or for no class."""
    most = (MAX_STATIONS, MAX_TYPES, MAX_CLASSES, MAX_FLIGHTS, MAX_TAILS, MAX_FARES)
    for part, rows in enumerate(net):
        if len(rows) > most[part] or (part == CLASSES and len(rows) == 0):
            raise NetError((part,), "many")


def has_shape(net):
    """Tell whether a value is six tuples of rows with the right kinds of values."""
    if not is_row(net, len(FIELDS)):
        return False
    return all([part_has_shape(part, rows) for part, rows in enumerate(net)])


def part_has_shape(part, rows):
    """Tell whether a value is a tuple of rows of a part."""
    if part == CLASSES:
        return are_strings(rows)
    return isinstance(rows, tuple) and all([row_has_shape(FIELDS[part], row) for row in rows])


def row_has_shape(fields, row):
    """Tell whether a value is a tuple with a value of the right kind for each field."""
    if not is_row(row, len(fields)):
        return False
    return all([fits_field(field, value) for field, value in zip(fields, row)])


def fits_field(field, value):
    """Tell whether a value is of the kind of a field."""
    if field == "name":
        return isinstance(value, str)
    if field == "number":
        return is_integer(value)
    if field == "limits":
        return are_integers(value)
    return are_strings(value)


def row_names(net, part):
    """Return the names of the rows of a part, in order."""
    if part == CLASSES:
        return list(net[part])
    return [row[0] for row in net[part]]


def row_fault(net, part, place):
    """Return the reason why a row breaks a rule, or an empty string."""
    names = row_names(net, part)
    name = names[place]
    if len(name) > MAX_NAME or not is_name(name):
        return "name"
    if name in names[:place]:
        return "twice"
    fault = FAULTS[part]
    return fault(net, place)


def station_fault(net, place):
    """Return the reason why a station breaks a rule behind its name."""
    _, zone, least = net[STATIONS][place]
    if -720 <= zone <= 840 and 0 <= least <= 600:
        return ""
    return "range"


def type_fault(net, place):
    """Return the reason why a type breaks a rule behind its name."""
    _, seats, turn = net[TYPES][place]
    if 1 <= seats <= 500 and 0 <= turn <= 600:
        return ""
    return "range"


def class_fault(net, place):
    """Return an empty string, for a class has nothing but its name."""
    return ""


def ends_fault(net, start, end):
    """Return the reason why something cannot go from start to end."""
    stations = row_names(net, STATIONS)
    if start not in stations or end not in stations:
        return "station"
    if start == end:
        return "same"
    return ""


def flight_fault(net, place):
    """Return the reason why a flight breaks a rule behind its name."""
    _, start, end, depart, arrive, kind, distance, limits = net[FLIGHTS][place]
    reason = ends_fault(net, start, end)
    if reason != "":
        return reason
    if not 0 <= depart < arrive <= MAX_TIME:
        return "times"
    if kind not in row_names(net, TYPES):
        return "type"
    if not 1 <= distance <= 20000:
        return "range"
    if not are_limits(limits, len(net[CLASSES])):
        return "limits"
    return ""


def are_limits(limits, many):
    """Tell whether limits are so many, in their range, and none is greater than the one before it."""
    if len(limits) != many or not all([0 <= limit <= 999 for limit in limits]):
        return False
    return all([limit >= lower for limit, lower in zip(limits, limits[1:])])


def tail_fault(net, place):
    """Return the reason why a tail breaks a rule behind its name."""
    _, kind, names = net[TAILS][place]
    turns = {word: turn for word, _, turn in net[TYPES]}
    if kind not in turns:
        return "type"
    flights = {flight[0]: flight for flight in net[FLIGHTS]}
    flown = flown_before(net, place)
    before = None
    for flight in names:
        if flight not in flights:
            return "flight"
        if flight in flown:
            return "flown"
        reason = leg_fault(flights[flight], before, kind, turns[kind])
        if reason != "":
            return reason
        flown.append(flight)
        before = flights[flight]
    return ""


def flown_before(net, place):
    """Return the names of the flights of all tails ahead of a place."""
    return [flight for tail in net[TAILS][:place] for flight in tail[2]]


def leg_fault(flight, before, kind, turn):
    """Return the reason why a tail of a type cannot fly a flight behind another one, None for the first."""
    _, start, _, depart, _, needed, _, _ = flight
    if needed != kind:
        return "kind"
    if before is None:
        return ""
    if start != before[2]:
        return "place"
    if depart < before[4] + turn:
        return "turn"
    return ""


def fare_fault(net, place):
    """Return the reason why a fare breaks a rule behind its name."""
    _, start, end, cabin, price, stops, fee, back = net[FARES][place]
    reason = ends_fault(net, start, end)
    if reason != "":
        return reason
    if cabin not in net[CLASSES]:
        return "class"
    if not 0 <= price <= MAX_COIN or not 0 <= fee <= MAX_COIN:
        return "range"
    if not 0 <= stops <= MAX_STOPS or not 0 <= back <= 100:
        return "range"
    return ""


# The faults of the rows behind their names, part by part.
FAULTS = (station_fault, type_fault, class_fault, flight_fault, tail_fault, fare_fault)
