"""Aircraft: how few tails can fly the flights of a type, and swaps of what tails fly."""

from interline.asking import require, require_name
from interline.charts import checked_chart
from interline.checks import is_net
from interline.errors import PaperError
from interline.forms import TAILS
from interline.kinds import are_integers, are_same, is_integer, is_row


def deficits(net, kind):
    """Return for each station the greatest deficit of a type, and when it is first so great."""
    return find_deficits(asked_chart(net, kind), kind)


def asked_chart(net, kind):
    """Return the chart of a net for a type that may be wrong."""
    chart = checked_chart(net)
    require_name(kind, chart.kinds, "type")
    return chart


def find_deficits(chart, kind):
    """Return for each station the greatest deficit of a type and its first time, (0, None) if there is none."""
    flights = [flight for flight in chart.flights.values() if flight.kind == kind]
    return tuple([greatest_deficit(flights, name, chart.kinds[kind].turn) for name in chart.stations])


def greatest_deficit(flights, station, turn):
    """Return the greatest deficit of a station and its first time, (0, None) if there is none."""
    departs = [flight.depart for flight in flights if flight.start == station]
    readies = [flight.arrive + turn for flight in flights if flight.end == station]
    best = (0, None)
    for time in sorted(departs):
        deficit = up_to(departs, time) - up_to(readies, time)
        if deficit > best[0]:
            best = (deficit, time)
    return best


def up_to(times, last):
    """Return how many of some times are not behind a last one."""
    return len([time for time in times if time <= last])


def accept_deficits(net, kind, told):
    """Return None if a value is the deficits of a type; otherwise raise PaperError."""
    chart = asked_chart(net, kind)
    if not is_row(told, len(chart.stations)):
        raise PaperError("form")
    if not all([is_row(entry, 2) and is_integer(entry[0]) for entry in told]):
        raise PaperError("form")
    if not are_same(told, find_deficits(chart, kind)):
        raise PaperError("entry")


def least_tails(net):
    """Return for each type its name and the least number of tails that can fly its flights."""
    chart = checked_chart(net)
    return tuple([(kind, sum([deficit for deficit, _ in find_deficits(chart, kind)])) for kind in chart.kinds])


def rotation(net, kind):
    """Return rows of the flights of a type, one for each of the fewest tails that can fly them."""
    return find_rotation(asked_chart(net, kind), kind)


def find_rotation(chart, kind):
    """Return the rows of a type, in the order in which they were begun."""
    turn = chart.kinds[kind].turn
    order = [(flight.depart, place, flight) for place, flight in enumerate(chart.flights.values())
             if flight.kind == kind]
    rows = []
    for _, _, flight in sorted(order):
        # Of the tails that are ready, the one that has been so longest goes, of those the one begun first.
        ready = [(row[-1].arrive + turn, place) for place, row in enumerate(rows)
                 if row[-1].end == flight.start and row[-1].arrive + turn <= flight.depart]
        if ready == []:
            rows.append([flight])
        else:
            rows[min(ready)[1]].append(flight)
    return tuple([tuple([other.name for other in row]) for row in rows])


def refitted(net):
    """Return the net with the rows of all types as its tails."""
    chart = checked_chart(net)
    tails = []
    for place, kind in enumerate(chart.kinds):
        for number, row in enumerate(find_rotation(chart, kind)):
            tails.append((f"T{place}_{number}", kind, row))
    return with_tails(net, tails)


def with_tails(net, tails):
    """Return a net with other tails."""
    return net[:TAILS] + (tuple(tails),) + net[TAILS + 1:]


def swaps(net):
    """Return all swaps of a net, in ascending order."""
    checked_chart(net)
    tails = net[TAILS]
    found = []
    for first in range(len(tails)):
        for one in range(len(tails[first][2]) + 1):
            for second in range(first + 1, len(tails)):
                for other in range(len(tails[second][2]) + 1):
                    if is_right_swap(net, (first, one, second, other)):
                        found.append((first, one, second, other))
    return tuple(found)


def is_right_swap(net, swap):
    """Tell whether a swap of two tails at places of their rows changes something, and leaves a right net."""
    first, one, second, other = swap
    rests = (net[TAILS][first][2][one:], net[TAILS][second][2][other:])
    return rests[0] != rests[1] and is_net(behind_swap(net, swap))


def behind_swap(net, swap):
    """Return the net behind a swap, right or not."""
    first, one, second, other = swap
    tails = list(net[TAILS])
    name, kind, row = tails[first]
    other_name, other_kind, other_row = tails[second]
    tails[first] = (name, kind, row[:one] + other_row[other:])
    tails[second] = (other_name, other_kind, other_row[:other] + row[one:])
    return with_tails(net, tails)


def swapped(net, swap):
    """Return the net behind a swap."""
    checked_chart(net)
    require(is_swap(net, swap), "swap")
    return behind_swap(net, swap)


def is_swap(net, value):
    """Tell whether a value is a swap of a net."""
    if not is_row(value, 4) or not are_integers(value):
        return False
    first, one, second, other = value
    tails = net[TAILS]
    if not 0 <= first < second < len(tails):
        return False
    if not 0 <= one <= len(tails[first][2]) or not 0 <= other <= len(tails[second][2]):
        return False
    return is_right_swap(net, value)
