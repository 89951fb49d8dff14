"""Slots: windows of time that are given to requests at the least cost, with prices that show it."""

from interline.asking import require, require_name
from interline.charts import checked_chart
from interline.errors import PaperError
from interline.kinds import are_integers, are_unlike, is_integer, is_row, is_short, is_within
from interline.limits import MAX_REQUESTS, MAX_WINDOWS

MAX_WEIGHT = 1000
MAX_LENGTH = 1440


def least_slots(requests, windows, room):
    """Return the least cost, the windows of the requests, and prices of the windows; None if there is no room."""
    require_slots(requests, windows, room)
    if len(requests) > windows * room:
        return None
    given = []
    for request in requests:
        give_window(requests, given, windows, room, request)
    return (cost_of(requests, given), tuple(given), tuple(prices_for(requests, given, windows, room)))


def require_slots(requests, windows, room):
    """Raise ArgumentError for the first wrong argument."""
    require(is_within(windows, 1, MAX_WINDOWS), "windows")
    require(is_within(room, 1, MAX_REQUESTS), "room")
    require(is_short(requests, MAX_REQUESTS) and all([is_request(part, windows) for part in requests]), "requests")
    require(are_unlike([request[0] for request in requests]), "requests")


def is_request(value, windows):
    """Tell whether a value is a request that wants one of so many windows."""
    if not is_row(value, 3) or not isinstance(value[0], str):
        return False
    return is_within(value[1], 0, windows - 1) and is_within(value[2], 0, MAX_WEIGHT)


def cost_at(request, window):
    """Return what it costs to give a request a window."""
    return request[2] * abs(window - request[1])


def cost_of(requests, given):
    """Return what it costs to give requests these windows."""
    return sum([cost_at(request, window) for request, window in zip(requests, given)])


def give_window(requests, given, windows, room, request):
    """Give a further request a window, and move other ones so that all of them cost the least."""
    ways = ways_out(requests, given, windows, free_windows(given, windows, room))
    _, window = min([(cost_at(request, number) + way[0], number) for number, way in enumerate(ways)])
    place = len(given)
    given.append(window)
    # Where the window was full, another request goes on to the next window, up to one with room left.
    while ways[window][1] is not None:
        place = ways[window][1]
        window = ways[window][2]
        given[place] = window


def free_windows(given, windows, room):
    """Return the windows that have room left."""
    return [number for number in range(windows) if given.count(number) < room]


def ways_out(requests, given, windows, free):
    """Return for each window the cheapest way to move requests so that it gets room, and a free one loses it.

    A way is (cost, place, window): the request in this place goes on to this window first, None if none has to.
    """
    ways = [None for _ in range(windows)]
    for number in free:
        ways[number] = (0, None, None)
    changes = True
    while changes:
        changes = False
        for place, window in enumerate(given):
            if window not in free:
                best = cheapest_move(requests[place], place, window, ways)
                if best is not None and (ways[window] is None or best[0] < ways[window][0]):
                    ways[window] = best
                    changes = True
    return ways


def cheapest_move(request, place, window, ways):
    """Return the cheapest way that begins with moving a request out of its window, None if none is known."""
    moves = [(cost_at(request, number) - cost_at(request, window) + way[0], place, number)
             for number, way in enumerate(ways) if way is not None and number != window]
    return min(moves, default=None)


def prices_for(requests, given, windows, room):
    """Return prices of the windows that show that no way to give them costs less."""
    free = free_windows(given, windows, room)
    # What a way out costs is a right price. Where no window has room left, any one may be taken for free.
    costs = [way[0] for way in ways_out(requests, given, windows, free or [0])]
    least = min(costs)
    return [cost - least for cost in costs]


def accept_slots(requests, windows, room, told):
    """Return None if a value is a triple of the least cost, windows and prices; otherwise raise PaperError."""
    require_slots(requests, windows, room)
    if not is_row(told, 3) or not is_integer(told[0]):
        raise PaperError("form")
    if not are_given(requests, windows, room, told[1]):
        raise PaperError("windows")
    if told[0] != cost_of(requests, told[1]):
        raise PaperError("cost")
    if not are_prices(requests, windows, room, told[1], told[2]):
        raise PaperError("prices")


def are_given(requests, windows, room, value):
    """Tell whether a value gives each request a window, and none to more than its room."""
    if not is_row(value, len(requests)) or not all([is_within(part, 0, windows - 1) for part in value]):
        return False
    return all([value.count(number) <= room for number in range(windows)])


def are_prices(requests, windows, room, given, value):
    """Tell whether a value is prices that show that no way to give the windows costs less."""
    if not is_row(value, windows) or not are_integers(value) or min(value) < 0:
        return False
    if any([value[number] > 0 for number in free_windows(given, windows, room)]):
        return False
    return all([is_best(request, window, value) for request, window in zip(requests, given)])


def is_best(request, window, prices):
    """Tell whether no window costs a request less than its own, the prices counted."""
    mine = cost_at(request, window) + prices[window]
    return all([mine <= cost_at(request, number) + price for number, price in enumerate(prices)])


def requests_at(net, station, length):
    """Return requests for all departures and arrivals at a station, in windows of so many minutes."""
    chart = checked_chart(net)
    require_name(station, chart.stations, "station")
    require(is_within(length, 1, MAX_LENGTH), "length")
    found = []
    for flight in chart.flights.values():
        if flight.start == station:
            found.append((flight.name, flight.depart // length, 1))
        if flight.end == station:
            found.append((flight.name, flight.arrive // length, 1))
    return tuple(found)
