"""Points 66 to 73: ways, plans, and the papers that no plan costs less."""

import itertools
import random
import time
import unittest

from interline.errors import InterlineError, TooMany
from interline.mending import accept_mend, least_mend, ways
from tests.samples import NET, VALUES, Case, damaged, net_of, random_bookings, random_net, with_value
from tests.test_broken import WRONG_BOOKINGS, told_breaks
from tests.test_courses import random_course

PRICES = ((3, 1), (400, 70))
WRONG_PRICES = (
    None, 5, "a", True, (), ((1, 1),), ((1, 1), (1, 1), (1, 1)), [(1, 1), (1, 1)], ([1, 1], (1, 1)), ((1, 1), [1, 1]),
    ((1,), (1, 1)), ((1, 1), (1,)), ((1, 1, 1), (1, 1)), ((1, 1), (1, 1, 1)), ((1, -1), (1, 1)), ((1, 1), (1000001, 1)),
    ((1, True), (1, 1)), ((1, 1), ("1", 1)), ((1, None), (1, 1)), (5, (1, 1)), ((1, 1), None), ((), ()),
)


def told_free(net, bookings, course):
    """The free seats by flight, None for a cancelled one, with all breaks."""
    told, breaks = told_breaks(net, bookings, course)
    carried = [journey[:found[0]] if found else journey for (_, _, journey), found in zip(bookings, breaks)]
    free = {name: told[name] and told[name][2] - sum(name in row for row in carried) for name in told}
    return told, breaks, free


def told_ways(net, bookings, course, prices):
    """What points 67 and 68 tell, word for word, by trying all rows of flights."""
    told, breaks, free = told_free(net, bookings, course)
    flights = {row[0]: row for row in net[3]}
    least = {row[0]: row[2] for row in net[0]}
    usable = [name for name in flights if free[name]]
    rows = [(name,) for name in usable]
    every = list(rows)
    for _ in range(3):
        rows = [row + (name,) for row in rows for name in usable if flights[row[-1]][2] == flights[name][1]
                and least[flights[name][1]] <= told[name][0] - told[row[-1]][1] <= 1440]
        every += rows
    found = []
    for place, ((_, cabin, journey), broke) in enumerate(zip(bookings, breaks)):
        if broke is None:
            continue
        leg = broke[0]
        start, end = flights[journey[leg]][1], flights[journey[-1]][2]
        since = told[journey[leg - 1]][1] + least[start] if leg else flights[journey[0]][3]
        minute, back = (part[net[2].index(cabin)] for part in prices)
        mine = [(back, None)]
        for row in every:
            stations = [flights[name][2] for name in row]
            if flights[row[0]][1] == start and told[row[0]][0] >= since and stations.index(end) == len(row) - 1 \
                    if end in stations else False:
                mine.append((max(0, told[row[-1]][1] - flights[journey[-1]][4]) * minute, row))
        mine.sort(key=lambda way: (way[0], way[1] or ()))
        found.append((place, tuple(mine)))
    return tuple(found), free


def seats_for(free, row):
    """Whether the flights of some journeys have free seats for all of them."""
    used = [name for journey in row for name in journey or ()]
    return all(used.count(name) <= free[name] for name in used)


def told_plans(rows, free):
    """All plans with their costs."""
    return [(sum(way[0] for way in row), tuple(way[1] for way in row))
            for row in itertools.product(*(mine for _, mine in rows)) if seats_for(free, [way[1] for way in row])]


def told_bound(rows, free, row):
    """The bound of a row of choices, a tuple of ways."""
    taken = [way[1] for way in row]
    total = sum(way[0] for way in row)
    for _, mine in rows[len(row):]:
        total += min(way[0] for way in mine if seats_for(free, taken + [way[1]]))
    return total


def told_further(rows, free, row):
    taken = [way[1] for way in row]
    return [row + (way,) for way in rows[len(row)][1] if seats_for(free, taken + [way[1]])]


def told_paper(rows, free, cost, row=()):
    if told_bound(rows, free, row) >= cost:
        return ()
    return tuple(told_paper(rows, free, cost, other) for other in told_further(rows, free, row))


def told_count(rows, free, top, row=()):
    """How many rows of choices that are no whole plans have a bound up to `top`."""
    if len(row) == len(rows) or told_bound(rows, free, row) > top:
        return 0
    return 1 + sum(told_count(rows, free, top, other) for other in told_further(rows, free, row))


TYPES = (("T", 9, 0), ("U", 9, 0))


def fan(there, back, straight, seats=(9, 9)):
    """So many flights from A to B, from B to C, and from A to C, and a plane of type U that flies from A to C and on."""
    flights = [("F", "A", "C", 0, 10, "U"), ("H", "C", "Z", 20, 30, "U")]
    flights += [(f"p{place}", "A", "B", 20 * place + 20, 20 * place + 30) for place in range(there)]
    flights += [(f"q{place}", "B", "C", 20 * place + 400, 20 * place + 410) for place in range(back)]
    for place in range(straight):
        flights += [(f"r{place}", "A", "C", 20 * place + 800, 20 * place + 810, "T" if place else "V"),
                    (f"s{place}", "C", "A", 20 * place + 812, 20 * place + 818, "T" if place else "V")]
    return net_of(flights, types=(*TYPES, ("V", seats[1], 0)))


class WaysTest(Case):

    def test_ways(self):
        net = net_of([("F", "A", "C", 100, 200), ("G", "A", "C", 150, 260), ("H", "A", "B", 100, 140),
                      ("I", "B", "C", 170, 190), ("J", "A", "C", 99, 180)])
        told = ways(net, (("a", "Y", ("F",)), ("b", "Y", ("G",))), (("cancel", "F"),), ((2,), (50,)))
        self.assertEqual(told, ((0, ((0, ("H", "I")), (50, None), (120, ("G",)))),))
        self.assertEqual(ways(net, (("b", "Y", ("G",)),), (("cancel", "F"),), ((2,), (50,))), ())
        self.assertEqual(ways(net, (), (), ((0,), (0,))), ())

    def test_ways_of_equal_cost(self):
        net = net_of([("F", "A", "C", 100, 200), ("G", "A", "C", 150, 210), ("B", "A", "C", 150, 210),
                      ("H", "A", "B", 100, 140), ("I", "B", "C", 170, 210), ("a", "A", "C", 150, 211)])
        told = ways(net, (("a", "Y", ("F",)),), (("cancel", "F"),), ((5,), (50,)))
        self.assertEqual(told[0][1], ((50, None), (50, ("B",)), (50, ("G",)), (50, ("H", "I")), (55, ("a",))))
        told = ways(net, (("a", "Y", ("F",)),), (("cancel", "F"),), ((0,), (0,)))
        self.assertEqual([journey for _, journey in told[0][1]], [None, ("B",), ("G",), ("H", "I"), ("a",)])

    def test_prices_by_class_and_lateness(self):
        net = net_of([("F", "A", "B", 100, 200), ("G", "A", "B", 150, 230), ("H", "A", "B", 100, 150)], classes=("C", "Y"))
        bookings = (("a", "Y", ("F",)), ("b", "C", ("F",)))
        self.assertEqual(ways(net, bookings, (("cancel", "F"),), ((7, 1), (500, 40))), (
            (0, ((0, ("H",)), (30, ("G",)), (40, None))), (1, ((0, ("H",)), (210, ("G",)), (500, None)))))
        # The told arrival of the own last flight counts, and the arrival of the way in the course.
        self.assertEqual(ways(net, bookings[:1], (("cancel", "F"), ("late", "G", 9)), ((7, 1), (500, 40)))[0][1][1],
                         (39, ("G",)))

    def test_the_least_minutes_and_the_longest_wait(self):
        for wait, found in ((29, False), (30, True), (1440, True), (1441, False)):
            net = net_of([("F", "A", "C", 0, 9), ("G", "A", "B", 100, 200), ("H", "B", "C", 200 + wait, 300 + wait)])
            told = ways(net, (("a", "Y", ("F",)),), (("cancel", "F"),), ((0,), (5,)))
            self.assertEqual(told, ((0, ((0, ("G", "H")), (5, None)) if found else ((5, None),)),))

    def test_waits_in_the_course(self):
        net = net_of([("F", "A", "C", 0, 9), ("G", "A", "B", 100, 200), ("H", "B", "C", 240, 300)])
        for late, found in ((10, True), (11, False)):
            told = ways(net, (("a", "Y", ("F",)),), (("cancel", "F"), ("late", "G", late)), ((0,), (5,)))
            self.assertEqual(len(told[0][1]), 2 if found else 1)
        for late, found in ((1400, True), (1401, False)):
            told = ways(net, (("a", "Y", ("F",)),), (("cancel", "F"), ("late", "H", late)), ((0,), (5,)))
            self.assertEqual(len(told[0][1]), 2 if found else 1)

    def test_the_first_flight_of_a_way(self):
        flights = [("F", "A", "B", 100, 200), ("G", "B", "C", 230, 300), ("H", "B", "C", 229, 290), ("I", "A", "C", 99, 300),
                   ("J", "A", "C", 100, 300), ("K", "B", "C", 3000, 3100), ("L", "A", "C", 3000, 3100)]
        net = net_of(flights)
        # Broken at the first flight: from its told departure on, without any least minutes, and with any wait.
        told = ways(net, (("a", "Y", ("F", "G")),), (("cancel", "F"),), ((0,), (5,)))
        self.assertEqual(told[0][1], ((0, ("J",)), (0, ("L",)), (5, None)))
        told = ways(net, (("a", "Y", ("F", "G")),), (("cancel", "F"), ("late", "I", 1)), ((0,), (5,)))
        self.assertEqual(told[0][1][0], (0, ("I",)))
        # Broken behind a flight: the least minutes behind its arrival in the course.
        told = ways(net, (("a", "Y", ("F", "G")),), (("cancel", "G"),), ((0,), (5,)))
        self.assertEqual(told[0][1], ((0, ("K",)), (5, None)))
        told = ways(net, (("a", "Y", ("F", "G")),), (("cancel", "G"), ("late", "H", 1)), ((0,), (5,)))
        self.assertEqual(told[0][1][:2], ((0, ("H",)), (0, ("K",))))
        told = ways(net, (("a", "Y", ("F", "G")),), (("late", "F", 1), ("late", "H", 1)), ((0,), (5,)))
        self.assertEqual(told[0][1], ((0, ("K",)), (5, None)))

    def test_a_way_may_take_the_flight_that_broke_it(self):
        # Bumped travellers may find a seat that another one leaves, and a missed flight may not be caught.
        net = net_of([("F", "A", "B", 0, 60), ("G", "B", "C", 90, 150), ("H", "B", "C", 200, 260)], types=(("T", 1, 0),))
        bookings = (("a", "Y", ("F", "G")), ("b", "Y", ("G",)))
        self.assertEqual(ways(net, bookings, (), ((1,), (999,))), ((1, ((110, ("H",)), (999, None))),))

    def test_full_flights(self):
        net = net_of([("F", "A", "B", 0, 60), ("G", "A", "B", 90, 150)], types=(("T", 2, 0),))
        bookings = (("a", "Y", ("F",)), ("b", "Y", ("G",)), ("c", "Y", ("G",)))
        self.assertEqual(ways(net, bookings, (("cancel", "F"),), ((1,), (999,))), ((0, ((999, None),)),))
        self.assertEqual(len(ways(net, bookings[:2], (("cancel", "F"),), ((1,), (999,)))[0][1]), 2)

    def test_ways_end_where_the_journey_ends(self):
        flights = [("F", "A", "B", 0, 60, "U"), ("G", "A", "C", 90, 150), ("H", "C", "A", 200, 260),
                   ("I", "A", "B", 300, 360), ("J", "B", "C", 400, 460), ("K", "C", "B", 500, 560),
                   ("L", "A", "B", 600, 660)]
        net = net_of(flights, types=TYPES)
        told = ways(net, (("a", "Y", ("F",)),), (("cancel", "F"),), ((0,), (5,)))[0][1]
        self.assertEqual(told, ((0, ("G", "H", "I")), (0, ("G", "H", "L")), (0, ("G", "K")), (0, ("I",)), (0, ("L",)),
                                (5, None)))

    def test_a_journey_that_ends_where_it_broke(self):
        flights = [("I", "A", "B", 300, 360), ("J", "B", "C", 400, 460, "U"), ("K", "C", "B", 500, 560),
                   ("M", "B", "D", 420, 480), ("N", "D", "B", 600, 700), ("O", "B", "D", 800, 900), ("P", "D", "B", 950, 999)]
        net = net_of(flights, types=TYPES)
        told = ways(net, (("a", "Y", ("I", "J", "K")),), (("cancel", "J"),), ((1,), (500,)))[0][1]
        self.assertEqual(told, ((140, ("M", "N")), (439, ("M", "P")), (439, ("O", "P")), (500, None)))

    def test_at_most_four_flights(self):
        flights = [("F", "A", "E", 0, 60), ("p", "A", "B", 100, 150), ("q", "B", "C", 200, 250), ("r", "C", "D", 300, 350),
                   ("s", "D", "E", 400, 450), ("t", "C", "E", 700, 750), ("u", "D", "C", 500, 550)]
        net = net_of(flights)
        told = ways(net, (("a", "Y", ("F",)),), (("cancel", "F"),), ((0,), (5,)))[0][1]
        self.assertEqual(told, ((0, ("p", "q", "r", "s")), (0, ("p", "q", "t")), (5, None)))

    def test_sixty_ways_and_more(self):
        bookings = (("a", "Y", ("F",)),)
        for there, back in ((7, 8), (6, 9)):
            net = fan(there, back, 59 - there * back)
            told = ways(net, bookings, (("cancel", "F"),), ((1,), (7,)))
            self.assertEqual(len(told[0][1]), 60)
            self.assertEqual(told, told_ways(net, bookings, (("cancel", "F"),), ((1,), (7,)))[0])
            net = fan(there, back, 60 - there * back)
            for function, rest in ((ways, ()), (least_mend, ()), (accept_mend, (None,))):
                self.refused(TooMany, ("ways",), function, net, bookings, (("cancel", "F"),), ((1,), (7,)), *rest)
                self.wrong_argument("prices", function, net, bookings, (("cancel", "F"),), ((1,), 7), *rest)
            self.assertEqual(ways(net, bookings, (), ((1,), (7,))), ())

    def test_against_the_words(self):
        reasons = {"ways": 0, "many": 0}
        for seed in range(150):
            net = random_net(seed, tails=5, longest=8, span=200)
            bookings = random_bookings(seed, net, 12)
            course = random_course(seed, net)
            rows, _ = told_ways(net, bookings, course, PRICES)
            if any(len(mine) > 60 for _, mine in rows):
                self.refused(TooMany, ("ways",), ways, net, bookings, course, PRICES)
                reasons["many"] += 1
            else:
                self.assertEqual(ways(net, bookings, course, PRICES), rows)
                reasons["ways"] += sum(len(journey or ()) > 1 for _, mine in rows for _, journey in mine)
        self.assertGreater(reasons["ways"], 100)


class MendTest(Case):

    def test_order_of_the_errors(self):
        for function, rest in ((ways, ()), (least_mend, ()), (accept_mend, (None,))):
            self.asks_the_net_first(function, None, None, None, *rest)
            for value in VALUES:
                if value != ():
                    self.wrong_argument("course", function, NET, None, value, None, *rest)
                self.wrong_argument("prices", function, NET, (), (), value, *rest)
            for value in WRONG_BOOKINGS:
                self.wrong_argument("bookings", function, NET, value, (), None, *rest)
            for value in WRONG_PRICES:
                self.wrong_argument("prices", function, NET, (), (), value, *rest)
            for prices in (((0, 0), (0, 0)), ((1000000,) * 2,) * 2):
                if not rest:
                    function(NET, (), (), prices)
            self.survives(function, (NET, (("a", "Y", ("F",)),), (("cancel", "F"),), PRICES, *rest), InterlineError)

    def test_nothing_broken(self):
        self.assertEqual(least_mend(NET, (("a", "Y", ("F",)),), (), PRICES), (0, (), ()))
        self.assertIsNone(accept_mend(NET, (), (), PRICES, (0, (), ())))
        for value, reason in (((0, (), ((),)), "paper"), ((1, (), ()), "cost"), ((0, (None,), ()), "plan")):
            self.wrong_paper(reason, accept_mend, NET, (), (), PRICES, value)

    def test_a_seat_for_one_of_two(self):
        net = net_of([("F", "A", "B", 0, 60), ("G", "A", "B", 90, 150), ("H", "A", "B", 100, 300)], types=(("T", 2, 0),))
        bookings = (("a", "Y", ("F",)), ("b", "Y", ("G",)), ("c", "Y", ("F",)))
        told = least_mend(net, bookings, (("cancel", "F"),), ((1,), (900,)))
        self.assertEqual(told[0], 90 + 240)
        self.assertIn(told[1], ((("G",), ("H",)), (("H",), ("G",))))
        # The empty row has the bound 180; with G behind it 330, with H 330, and with the money back 990.
        self.assertEqual(told[2], ((), (), ()))
        self.assertEqual(least_mend(net, bookings, (("cancel", "F"),), ((1,), (7,))), (14, (None, None), ()))

    def test_against_all_plans(self):
        seen = {"deep": 0, "many": 0, "broken": 0}
        for seed in range(400):
            net = random_net(seed, tails=5, longest=6, span=100)
            bookings = random_bookings(seed, net, 9)
            course = random_course(seed, net)
            rows, free = told_ways(net, bookings, course, PRICES)
            size = 1
            for _, mine in rows:
                size *= len(mine)
            if size > 3000 or any(len(mine) > 60 for _, mine in rows):
                continue
            plans = dict(map(reversed, told_plans(rows, free)))
            least = min(plans.values())
            if told_count(rows, free, least) > 600:
                seen["many"] += 1
                self.refused(TooMany, ("choices",), least_mend, net, bookings, course, PRICES)
                continue
            cost, plan, paper = least_mend(net, bookings, course, PRICES)
            self.assertEqual((cost, plans[plan], paper), (least, least, told_paper(rows, free, least)))
            seen["deep"] += "((" in repr(paper)[1:]
            seen["broken"] += len(rows) > 1
            self.takes_the_right_ones(net, bookings, course, plans, least, paper)
        self.assertGreater(seen["deep"], 8)
        self.assertGreater(seen["broken"], 60)

    def takes_the_right_ones(self, net, bookings, course, plans, least, paper):
        """All cheapest plans are accepted with the paper; dearer ones with no paper; nothing else."""
        for plan, cost in list(plans.items())[:40]:
            if cost == least:
                self.assertIsNone(accept_mend(net, bookings, course, PRICES, (cost, plan, paper)))
            else:
                self.wrong_paper("paper", accept_mend, net, bookings, course, PRICES, (cost, plan, paper))
                self.wrong_paper("cost", accept_mend, net, bookings, course, PRICES, (least, plan, paper))
        plan = min(plans, key=plans.get)
        for value in damaged(paper)[:60]:
            self.wrong_paper("paper", accept_mend, net, bookings, course, PRICES, (least, plan, value))

    def test_papers_of_plans_that_are_too_dear(self):
        net = net_of([("F", "A", "B", 0, 60), ("G", "A", "B", 90, 150)])
        arguments = (net, (("a", "Y", ("F",)),), (("cancel", "F"),), ((1,), (900,)))
        self.assertEqual(least_mend(*arguments), (90, (("G",),), ()))
        for paper in ((), ((),), ((), ()), ((), ((),))):
            self.wrong_paper("paper", accept_mend, *arguments, (900, (None,), paper))
        self.wrong_paper("paper", accept_mend, *arguments, (90, (("G",),), ((), ())))

    def test_errors_of_accept_mend(self):
        net = net_of([("F", "A", "B", 0, 60), ("G", "A", "B", 90, 150), ("H", "A", "B", 100, 300)], types=(("T", 2, 0),))
        bookings = (("a", "Y", ("F",)), ("b", "Y", ("G",)), ("c", "Y", ("F",)))
        arguments = (net, bookings, (("cancel", "F"),), ((1,), (900,)))
        right = (330, (("G",), ("H",)), ((), (), ()))
        self.assertIsNone(accept_mend(*arguments, right))
        self.assertIsNone(accept_mend(*arguments, (330, (("H",), ("G",)), ((), (), ()))))
        for value in (None, 5, (), right[:2], right + (None,), list(right), (True, *right[1:]), ("330", *right[1:]),
                      (None, *right[1:]), ((), *right[1:])):
            self.wrong_paper("form", accept_mend, *arguments, value)
        for plan in (None, (), (("G",),), (("G",), ("G",)), (("G",), ("H",), None), (("F",), ("H",)), ("G", "H"),
                     [("G",), ("H",)], (["G"], ("H",)), (("G", "H"), None), ((), None), (0, None), (False, None),
                     (("X",), None), (("G",), ("H", 1)), ((("G",),), None)):
            self.wrong_paper("plan", accept_mend, *arguments, (331, plan, None))
        for cost in (329, 331, -1, 10 ** 40):
            self.wrong_paper("cost", accept_mend, *arguments, (cost, right[1], None))
        for paper in (None, (), ((), ()), ((), (), (), ()), [(), (), ()], ((), (), ((),)), ((), (), None), 0, True,
                      ((), 0, ())):
            self.wrong_paper("paper", accept_mend, *arguments, (*right[:2], paper))
        self.wrong_paper("paper", accept_mend, *arguments, (990, (("G",), None), right[2]))
        self.survives_papers(accept_mend, arguments, [right])

    def crowded(self, many, seats=9):
        """So many broken bookings with ways of one cost, and as many flights to choose from as there are."""
        flights = [("F", "A", "B", 0, 60), ("G", "A", "B", 90, 100), ("H", "A", "B", 110, 120)]
        net = net_of(flights, types=(("T", seats, 0),), stations=(("A", 0, 30), ("B", 0, 30)))
        return net, tuple((str(place), "Y", ("F",)) for place in range(many)), (("cancel", "F"),)

    def test_too_many_choices(self):
        # Three ways that cost nothing: 1 + 3 + 9 + 27 + 81 + 243 rows for six bookings, and 729 more for seven.
        net, bookings, course = self.crowded(6)
        cost, plan, paper = least_mend(net, bookings, course, ((0,), (0,)))
        self.assertEqual((cost, paper), (0, ()))
        self.assertIsNone(accept_mend(net, bookings, course, ((0,), (0,)), (cost, plan, paper)))
        net, bookings, course = self.crowded(7)
        self.refused(TooMany, ("choices",), least_mend, net, bookings, course, ((0,), (0,)))
        self.assertIsNone(accept_mend(net, bookings, course, ((0,), (0,)), (0, (None,) * 7, ())))
        self.wrong_paper("form", accept_mend, net, bookings, course, ((0,), (0,)), None)

    def test_the_edge_of_too_many_choices(self):
        edges, deep = set(), []
        for seats in range(1, 10):
            for many in range(1, 12):
                net, bookings, course = self.crowded(many, seats)
                for prices in (((0,), (0,)), ((0,), (5,)), ((1,), (61,)), ((1,), (40,)), ((1,), (41,))):
                    rows, free = told_ways(net, bookings, course, prices)
                    if len(rows) > 7:
                        continue
                    least = min(cost for cost, _ in told_plans(rows, free))
                    count = told_count(rows, free, least)
                    if count > 600:
                        self.refused(TooMany, ("choices",), least_mend, net, bookings, course, prices)
                    else:
                        cost, plan, paper = least_mend(net, bookings, course, prices)
                        self.assertEqual((cost, paper), (least, told_paper(rows, free, least)))
                        self.assertIsNone(accept_mend(net, bookings, course, prices, (cost, plan, paper)))
                        deep.append(paper)
                    edges.add(count)
        self.assertTrue(any(count > 600 for count in edges) and any(300 < count <= 600 for count in edges))
        self.assertGreater(sum("(((" in repr(paper) for paper in deep), 10)

    def test_exactly_so_many_choices(self):
        # Two bookings with 24 ways each, and a third one with the money back alone: 1 + 24 + 24 * 24 rows,
        # less one where both would take the last seat.
        bookings = (("a", "Y", ("F",)), ("b", "Y", ("F",)), ("c", "Y", ("H",)))
        arguments = (bookings, (("cancel", "F"),), ((0,), (0,)))
        for seats, count in ((1, 600), (2, 601)):
            net = fan(4, 5, 3, (9, seats))
            rows, free = told_ways(net, *arguments)
            self.assertEqual([len(mine) for _, mine in rows], [24, 24, 1])
            self.assertEqual(told_count(rows, free, 0), count)
            if count > 600:
                self.refused(TooMany, ("choices",), least_mend, net, *arguments)
            else:
                self.assertEqual(least_mend(net, *arguments)[0], 0)
            self.assertIsNone(accept_mend(net, *arguments, (0, (None,) * 3, ())))

    def test_sixty_broken_bookings(self):
        flights = [("F", "A", "B", 0, 60), ("G", "A", "B", 90, 100), ("H", "A", "B", 110, 120), ("I", "A", "C", 70, 90)]
        net = with_value(net_of(flights, types=(("T", 60, 0),)), 3, 0, 7, (60,))
        bookings = tuple((str(place), "Y", ("F",)) for place in range(60))
        begin = time.process_time()
        cost, plan, paper = least_mend(net, bookings, (("cancel", "F"),), ((1,), (900,)))
        self.assertEqual((cost, plan, paper), (60 * 40, (("G",),) * 60, ()))
        self.assertIsNone(accept_mend(net, bookings, (("cancel", "F"),), ((1,), (900,)), (cost, plan, paper)))
        self.assertLess(time.process_time() - begin, 5)

    def test_plans_for_a_random_day_are_quick(self):
        chance = random.Random(5)
        begin = time.process_time()
        for seed in range(30):
            net = random_net(seed, tails=8, longest=5, stations=4)
            bookings = random_bookings(seed, net, 60)
            try:
                told = least_mend(net, bookings, random_course(chance.randrange(999), net), PRICES)
                self.assertGreaterEqual(told[0], 0)
            except TooMany:
                pass
        self.assertLess(time.process_time() - begin, 30)


if __name__ == "__main__":
    unittest.main()
