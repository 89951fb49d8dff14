"""Chains: the fewest rows that have each of some things once, and a cover that shows that none are fewer.

The things are told by their places. A pair of places says that the second one may stand directly behind the first one.
"""

from interline.kinds import is_known, is_row


def after_each(many, pairs):
    """Return for each place those that may stand directly behind it."""
    after = [[] for _ in range(many)]
    for one, two in pairs:
        after[one].append(two)
    return after


def fewest_chains(after):
    """Return the fewest rows of places, and a cover: ends ("out", place) and ("in", place)."""
    before = {}
    for place in range(len(after)):
        finds_next(after, before, place, {})
    follow = {one: two for two, one in before.items()}
    rows = [chain_from(follow, place) for place in range(len(after)) if place not in before]
    return rows, cover_for(after, before, follow)


def finds_next(after, before, place, seen):
    """Tell whether a place finds one to stand behind it, where others take another one if need be."""
    for other in after[place]:
        if other not in seen:
            seen[other] = True
            if other not in before or finds_next(after, before, before[other], seen):
                before[other] = place
                return True
    return False


def chain_from(follow, place):
    """Return the row that begins with a place."""
    row = [place]
    while row[-1] in follow:
        row.append(follow[row[-1]])
    return row


def cover_for(after, before, follow):
    """Return as many ends as places have one behind them, of which each pair that may follow has one.

    This is Koenig's way from a greatest matching to a least cover: go from the places that nothing follows to all
    that may stand behind them, from these back to those ahead of them, and so on.
    """
    reached = {place: True for place in range(len(after)) if place not in follow}
    waiting = list(reached)
    ins = {}
    while waiting != []:
        place = waiting.pop()
        for other in after[place]:
            if other not in ins:
                ins[other] = True
                reached[before[other]] = True
                waiting.append(before[other])
    outs = [("out", place) for place in range(len(after)) if place not in reached]
    return outs + [("in", place) for place in ins]


def is_end(value):
    """Tell whether a value has the form of an end, whatever its second part is."""
    return is_row(value, 2) and is_known(value[0], ("out", "in"))


def has_each(ends, pairs):
    """Tell whether no end stands twice in a tuple of ends, and each of some pairs has one of its own there."""
    table = {end: True for end in ends}
    if len(table) != len(ends):
        return False
    return all([("out", first) in table or ("in", second) in table for first, second in pairs])
