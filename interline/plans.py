"""Plans for a course: rows of choices among the ways of broken bookings, their bounds, and papers of these."""

from heapq import heappop, heappush

from interline.errors import TooMany
from interline.limits import MAX_CHOICES


class Choices:
    """A row of choices: ways for the first broken bookings, which find seats."""

    def __init__(self, damage, made, cost, free, lows):
        self.damage = damage
        self.made = made
        self.cost = cost
        self.free = free
        self.lows = lows
        self.bound = cost + sum(lows)
        self.led = None

    def is_whole(self):
        """Tell whether the row is a whole plan."""
        return len(self.made) == len(self.damage.ways)

    def further(self):
        """Return the rows that this one leads to, one for each open way of the next broken booking."""
        # A search, a count and a paper ask for the same rows one after the other.
        if self.led is None:
            self.led = []
            if not self.is_whole():
                ways = self.damage.ways[len(self.made)]
                self.led = [self.behind(way) for way in ways if is_open(self.free, way)]
        return self.led

    def behind(self, way):
        """Return the row with a way behind it."""
        cost, journey = way
        made = (*self.made, journey)
        if journey is None:
            return Choices(self.damage, made, self.cost + cost, self.free, self.lows[1:])
        free = dict(self.free)
        for name in journey:
            free[name] -= 1
        lows = self.lows[1:]
        # The cheapest open ways are others only behind a way that takes a last seat.
        if min([free[name] for name in journey]) == 0:
            lows = [low_of(free, ways) for ways in self.damage.ways[len(made):]]
        return Choices(self.damage, made, self.cost + cost, free, lows)


def is_open(free, way):
    """Tell whether each flight of a way has a free seat."""
    return way[1] is None or all([free[name] > 0 for name in way[1]])


def low_of(free, ways):
    """Return the cost of the cheapest open one of some ways, which stand in the order of their costs."""
    for way in ways:
        if is_open(free, way):
            return way[0]
    return 0


def no_choices(damage):
    """Return the empty row of choices."""
    return Choices(damage, (), 0, damage.free, [low_of(damage.free, ways) for ways in damage.ways])


def dearest_backs(damage):
    """Return what it costs to give all their money back, which is a plan."""
    return sum([cost for ways in damage.ways for cost, journey in ways if journey is None])


def best_plan(first):
    """Return the whole row of the least cost behind an empty one, or raise TooMany."""
    return cheapest_plan(first, dearest_backs(first.damage))


def cheapest_plan(first, most):
    """Return the whole row of the least cost behind an empty one, None if it costs more than `most`.

    TooMany is raised for too many rows that are not whole, with bounds up to the lesser one of both.
    """
    row = search_plan(first, most)
    top = most if row is None else row.bound
    if count_choices(first, top, MAX_CHOICES) > MAX_CHOICES:
        raise TooMany("choices")
    return row


def search_plan(first, most):
    """Return a whole row of the least cost, None if it costs more than `most`; or raise TooMany."""
    queue = [(first.bound, 0, first)]
    number = 0
    visited = 0
    while queue != []:
        bound, _, row = heappop(queue)
        if bound > most:
            return None
        if row.is_whole():
            return row
        visited += 1
        if visited > MAX_CHOICES:
            raise TooMany("choices")
        for other in reversed(row.further()):
            # Of equal bounds the newest one goes first, so that whole rows are met soon.
            number -= 1
            heappush(queue, (other.bound, number, other))
    return None


def count_choices(row, top, most):
    """Count the rows from a row on that are not whole and have a bound up to `top`, stopping above `most`."""
    if row.is_whole() or row.bound > top:
        return 0
    count = 1
    for other in row.further():
        if count <= most:
            count += count_choices(other, top, most - count)
    return count


def plan_paper(row, cost):
    """Return the paper that no plan that begins with a row costs less, for a cost that is right."""
    if row.bound >= cost:
        return ()
    return tuple([plan_paper(other, cost) for other in row.further()])


def is_plan_paper(row, cost, paper):
    """Tell whether a value is the paper that no plan that begins with a row costs less."""
    if not isinstance(paper, tuple):
        return False
    if row.bound >= cost:
        return paper == ()
    # A whole plan that costs less leads to no rows, and no paper is right for it.
    rows = row.further()
    if rows == [] or len(rows) != len(paper):
        return False
    return all([is_plan_paper(other, cost, part) for other, part in zip(rows, paper)])


def plan_cost(damage, plan):
    """Return the cost of a plan, or None if a value is no plan."""
    if not isinstance(plan, tuple) or len(plan) != len(damage.ways):
        return None
    free = dict(damage.free)
    total = 0
    for ways, journey in zip(damage.ways, plan):
        costs = [way[0] for way in ways if way[1] == journey and is_open(free, way)]
        if costs == []:
            return None
        for name in journey or ():
            free[name] -= 1
        total += costs[0]
    return total
