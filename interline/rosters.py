"""Rosters: which duties a person flies one behind the other, and how few rosters do."""

from interline.asking import require
from interline.chains import after_each, fewest_chains, has_each, is_end
from interline.crews import are_duties, asked_chart
from interline.errors import PaperError
from interline.kinds import is_row, is_within
from interline.limits import MAX_TIME


def turns(net, sits, duties, rest):
    """Return all turns: the pairs of duties that a person may fly one behind the other."""
    return tuple(asked_turns(net, sits, duties, rest))


def asked_turns(net, sits, duties, rest):
    """Return the turns in ascending order for arguments that may be wrong."""
    chart = asked_chart(net, sits)
    require(are_duties(chart, sits, duties), "duties")
    require(is_within(rest, 0, MAX_TIME), "rest")
    rows = [chart.flights_of(duty) for duty in duties]
    return [(first, second) for first, one in enumerate(rows) for second, two in enumerate(rows)
            if first != second and is_turn(one[-1], two[0], rest)]


def is_turn(last, flight, rest):
    """Tell whether a person who has rested may fly a flight behind the last one of a duty."""
    return last.end == flight.start and flight.depart - last.arrive >= rest


def least_rosters(net, sits, duties, rest):
    """Return the fewest rosters of duties, and a cover that shows that none are fewer."""
    pairs = asked_turns(net, sits, duties, rest)
    rows, cover = fewest_chains(after_each(len(duties), pairs))
    return (tuple([tuple(row) for row in rows]), tuple(cover))


def accept_rosters(net, sits, duties, rest, told):
    """Return None if a value is a pair of fewest rosters and a cover; otherwise raise PaperError."""
    pairs = asked_turns(net, sits, duties, rest)
    if not is_row(told, 2) or not isinstance(told[1], tuple):
        raise PaperError("form")
    if not are_rosters(told[0], len(duties), pairs):
        raise PaperError("rosters")
    if not all([is_end(end) and is_place(end[1], len(duties)) for end in told[1]]) or not has_each(told[1], pairs):
        raise PaperError("cover")
    if len(told[0]) != len(duties) - len(told[1]):
        raise PaperError("number")


def is_place(value, many):
    """Tell whether a value is a place among so many."""
    return is_within(value, 0, many - 1)


def are_rosters(value, many, pairs):
    """Tell whether a value is rosters of so many duties."""
    if not isinstance(value, tuple) or not all([is_roster(row, many, pairs) for row in value]):
        return False
    return sorted([place for row in value for place in row]) == list(range(many))


def is_roster(value, many, pairs):
    """Tell whether a value is a row of duties, any two neighbours of which are a turn."""
    if not isinstance(value, tuple) or value == () or not all([is_place(part, many) for part in value]):
        return False
    return all([pair in pairs for pair in zip(value, value[1:])])
