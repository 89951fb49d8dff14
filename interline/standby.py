"""Spares that stand by: which of them a course takes, and what becomes of the flights then."""

from interline.courses import flown_in


def relieved(chart, spares, course):
    """Return a course without the events that spares undo, and for each of these the flight and the spare's type."""
    left = list(spares)
    taken = []
    cancels = [(chart.flights[event[1]].depart, event[1]) for event in course if event[0] == "cancel"]
    for _, name in sorted(cancels):
        fitting = [place for place, (station, _) in enumerate(left) if station == chart.flights[name].start]
        if fitting != []:
            taken.append((name, left.pop(fitting[0])[1]))
    undone = [name for name, _ in taken]
    return tuple([event for event in course if event[1] not in undone]), tuple(taken)


def flown_with(chart, spares, course):
    """Return what becomes of the flights in a course when spares stand by, by name."""
    rest, taken = relieved(chart, spares, course)
    flown = flown_in(chart, rest)
    if taken == ():
        return flown
    kinds = {name: kind for name, kind in taken}
    for tail in chart.tails.values():
        flown.update(seated_by(chart, tail, flown, kinds))
    return flown


def seated_by(chart, tail, flown, kinds):
    """Return what becomes of the flights of a tail, by name, with no more seats than the last spare taken has."""
    found = {}
    seats = None
    for name in tail.flights:
        if name in kinds:
            seats = chart.kinds[kinds[name]].seats
        found[name] = flown[name]
        if seats is not None and flown[name] is not None:
            depart, arrive, own = flown[name]
            found[name] = (depart, arrive, min(own, seats))
    return found
