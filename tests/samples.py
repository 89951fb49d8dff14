"""What the tests share: a test case with short words, a small net, random nets, and values of all kinds."""

import random
import unittest

from interline.errors import ArgumentError, NetError, PaperError


class Case(unittest.TestCase):
    """A test case that asks for one exact error."""

    def refused(self, error, told, function, *arguments):
        """The function raises just this error, with these attributes in the order of its parameters."""
        with self.assertRaises(Exception) as caught:
            function(*arguments)
        self.assertIs(type(caught.exception), error, repr(caught.exception))
        self.assertEqual(tuple(vars(caught.exception).values()), told)

    def wrong_argument(self, reason, function, *arguments):
        self.refused(ArgumentError, (reason,), function, *arguments)

    def wrong_paper(self, reason, function, *arguments):
        self.refused(PaperError, (reason,), function, *arguments)

    def asks_the_net_first(self, function, *arguments):
        """A net that `check` refuses goes ahead of all wrong arguments."""
        self.refused(NetError, ((), "shape"), function, None, *arguments)
        self.refused(NetError, ((2,), "many"), function, ((), (), (), (), (), ()), *arguments)

    def survives(self, function, arguments, allowed):
        """With any value in the place of any argument, nothing but the allowed errors is raised."""
        for place in range(len(arguments)):
            for value in VALUES:
                changed = arguments[:place] + (value,) + arguments[place + 1:]
                try:
                    function(*changed)
                except allowed:
                    pass

    def survives_papers(self, function, arguments, papers):
        """With any value as a paper, or in any place of one, only PaperError is raised."""
        for paper in papers:
            for value in [*VALUES, *damaged(paper)]:
                self.assertRaises(PaperError, function, *arguments, value)


def nested(depth, value=()):
    """A value that is nested so deep."""
    for _ in range(depth):
        value = (value,)
    return value


VALUES = (
    None, True, False, 0, 1, -1, 7, 10 ** 40, -10 ** 40, "", "A", "F", "Y", "late", "a b", "\x00\u00e9\ud800",
    (), (None,), (True,), (0,), ("A",), ("F",), ("F", "F"), ((),), ((), ()), ((), (), ()), (1, 2), (0, (), ()),
    ("A", "B", 0), (("F",), 0), (("a", "Y", ("F",)),) * 2, (("cancel",),), (("cancel", "F", 1),),
    (("late", "F", True),), (("sell",),), ((((),),),), nested(99), (nested(95), "F"), (nested(95),) * 3,
    ("A",) * 19999, (1,) * 19999, ((),) * 9999, ("x" * 15000,),
)


def damaged(paper):
    """Some values that differ from a paper in one place."""
    if isinstance(paper, bool) or paper is None or isinstance(paper, str):
        return [1, ()]
    if isinstance(paper, int):
        return [paper + 1, None, str(paper)] + ([bool(paper)] if paper in (0, 1) else [])
    found = [paper + (None,), paper + paper[-1:] + ((),), list(paper)]
    if paper:
        found.append(paper[:-1])
    for place, part in enumerate(paper):
        found.extend([paper[:place] + (other,) + paper[place + 1:] for other in damaged(part)])
    return found


# Stations A to D, planes T and U, classes C and Y; F and G, H and I lead from A by B and by D to C.
STATIONS = (("A", 60, 30), ("B", 0, 40), ("C", -90, 0), ("D", 840, 20))
TYPES = (("T", 3, 20), ("U", 2, 0))
CLASSES = ("C", "Y")
FLIGHTS = (
    ("F", "A", "B", 100, 160, "T", 300, (3, 2)),
    ("G", "B", "C", 200, 300, "T", 100, (2, 2)),
    ("H", "A", "D", 100, 180, "U", 500, (2, 1)),
    ("I", "D", "C", 200, 290, "U", 400, (3, 3)),
    ("J", "C", "A", 400, 600, "T", 900, (1, 0)),
)
TAILS = (("N1", "T", ("F", "G", "J")), ("N2", "U", ("H", "I")))
FARES = (
    ("fl", "A", "B", "Y", 50, 0, 10, 50),
    ("gl", "B", "C", "Y", 40, 0, 0, 100),
    ("ac", "A", "C", "Y", 90, 1, 20, 0),
    ("cc", "A", "C", "C", 300, 3, 0, 100),
)
NET = (STATIONS, TYPES, CLASSES, FLIGHTS, TAILS, FARES)


def with_part(net, part, rows):
    """A net with other rows in one part."""
    return net[:part] + (tuple(rows),) + net[part + 1:]


def with_row(net, part, place, row):
    """A net with another row in one place."""
    return with_part(net, part, net[part][:place] + (row,) + net[part][place + 1:])


def with_value(net, part, place, field, value):
    """A net with another value in one field of a row."""
    row = net[part][place]
    return with_row(net, part, place, row[:field] + (value,) + row[field + 1:])


def net_of(flights, fares=(), stations=None, types=(("T", 9, 0),), classes=("Y",), least=30):
    """A net of flights (name, start, end, depart, arrive), each with a tail of its own kind of row.

    A flight may go on with its type and its limits. There are at most 12 tails, so flights that one tail
    can fly one behind the other share it.
    """
    flights = [row if len(row) == 8 else full_flight(row, classes) for row in flights]
    if stations is None:
        names = sorted({row[1] for row in flights} | {row[2] for row in flights})
        stations = tuple((name, 0, least) for name in names)
    turns = {name: turn for name, _, turn in types}
    rows = []
    for flight in sorted(flights, key=lambda flight: flight[3]):
        for row in rows:
            last = row[-1]
            if last[5] == flight[5] and last[2] == flight[1] and flight[3] >= last[4] + turns[flight[5]]:
                row.append(flight)
                break
        else:
            rows.append([flight])
    tails = tuple((f"N{place}", row[0][5], tuple(flight[0] for flight in row)) for place, row in enumerate(rows))
    return (stations, types, classes, tuple(flights), tails, tuple(fares))


def full_flight(row, classes):
    """A flight with its type, a distance and limits, where they are left out."""
    kind = row[5] if len(row) > 5 else "T"
    limits = row[6] if len(row) > 6 else (9,) * len(classes)
    return row[:5] + (kind, 100, limits)


def random_net(seed, stations=4, tails=3, longest=4, span=60, classes=2, fares=9):
    """A net that keeps the rules, with small numbers, so that much happens at once."""
    chance = random.Random(seed)
    places = "ABCDEFGHIJKL"[:stations]
    rows = tuple((name, chance.choice((-720, -90, 0, 60, 840)), chance.choice((0, 10, 30))) for name in places)
    types = (("T", 2, 10), ("U", 1, 0), ("V", 4, 30))
    cabins = ("C", "Y", "Z")[:classes]
    flights = []
    planes = []
    for tail in range(tails):
        kind, _, turn = chance.choice(types)
        at, time = chance.choice(places), chance.randrange(0, 200)
        names = []
        for _ in range(chance.randint(0 if tail else 2, longest)):
            end = chance.choice([name for name in places if name != at])
            arrive = time + chance.randrange(20, 90)
            name = f"F{len(flights)}"
            limits = tuple(sorted((chance.randint(0, 4) for _ in cabins), reverse=True))
            flights.append((name, at, end, time, arrive, kind, chance.randint(1, 900), limits))
            names.append(name)
            at, time = end, arrive + turn + chance.randrange(0, span)
        planes.append((f"N{tail}", kind, tuple(names)))
    chance.shuffle(flights)
    told = []
    for place in range(fares):
        start, end = chance.sample(places, 2)
        told.append((f"r{place}", start, end, chance.choice(cabins), chance.randrange(0, 8) * 10,
                     chance.randint(0, 3), 5, 50))
    return (rows, types, cabins, tuple(flights), tuple(planes), tuple(told))


def all_journeys(net):
    """All journeys of a net, simple or not, found by trying every row of up to four flights."""
    least = {name: minutes for name, _, minutes in net[0]}
    flights = net[3]

    def follows(one, two):
        return one[2] == two[1] and least[two[1]] <= two[3] - one[4] <= 1440

    rows = [(flight,) for flight in flights]
    found = list(rows)
    for _ in range(3):
        rows = [row + (flight,) for row in rows for flight in flights if follows(row[-1], flight)]
        found.extend(rows)
    return found


def random_bookings(seed, net, most):
    """Bookings of a net, whether they keep to the limits or not."""
    chance = random.Random(seed)
    rows = all_journeys(net)
    many = chance.randint(0, most)
    return tuple((f"p {place}", chance.choice(net[2]), tuple(flight[0] for flight in chance.choice(rows)))
                 for place in range(many))
