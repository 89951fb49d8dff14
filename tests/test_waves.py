"""Points 154 to 156: connections, and when stations are busiest and quietest."""

import random
import unittest

from interline.courses import actual, courses
from interline.errors import InterlineError, TooMany
from interline.waves import busiest, connections, quietest, weak_connections
from tests.samples import NET, Case, net_of, random_bookings, random_net
from tests.test_book import NET1 as BOOK_NET
from tests.test_book import WRONG_NUMBERS, WRONG_THREATS
from tests.test_broken import WRONG_BOOKINGS
from tests.test_courses import line, random_course, threats_of

FLIGHTS = [("a", "A", "B", 0, 50), ("b", "D", "B", 0, 60, "U"), ("c", "B", "C", 90, 150), ("d", "B", "E", 100, 160, "U"),
           ("e", "C", "A", 200, 250)]
NET1 = net_of(FLIGHTS, types=(("T", 9, 0), ("U", 9, 0)))
BOOKINGS = (("1", "Y", ("b", "d")), ("2", "Y", ("a", "c", "e")), ("3", "Y", ("a", "d")), ("4", "Y", ("b", "c")),
            ("5", "Y", ("a", "c")), ("6", "Y", ("b",)), ("7", "Y", ("c", "e")), ("8", "Y", ("a", "c")))
WRONG_STATIONS = (None, 5, "", "X", "a", ("A",), True, ["A"])


def told_connections(net, bookings):
    """What point 154 tells, word for word."""
    flights = {row[0]: row for row in net[3]}
    least = {row[0]: row[2] for row in net[0]}
    found = []
    for at, one in enumerate(net[3]):
        for other, two in enumerate(net[3]):
            many = sum((one[0], two[0]) in list(zip(journey, journey[1:])) for _, _, journey in bookings)
            if many:
                slack = flights[two[0]][3] - flights[one[0]][4] - least[two[1]]
                found.append((slack, at, other, (one[0], two[0], many, slack)))
    return tuple(row for _, _, _, row in sorted(found))


def told_weak(net, bookings, threats, most):
    least = {row[0]: row[2] for row in net[0]}
    starts = {row[0]: row[1] for row in net[3]}
    found = []
    for one, two, many, _ in told_connections(net, bookings):
        torn = []
        for course in courses(net, threats, most):
            told = dict(zip([row[0] for row in net[3]], actual(net, course)))
            if not (told[one] and told[two] and told[two][0] - told[one][1] >= least[starts[two]]):
                torn.append(course)
        if torn:
            found.append((one, two, many, len(torn), torn[0]))
    return tuple(found)


def times_at(net, station):
    return sorted([row[3] for row in net[3] if row[1] == station] + [row[4] for row in net[3] if row[2] == station])


class ConnectionsTest(Case):

    def test_several_bookings_and_equal_slack(self):
        self.assertEqual(connections(NET1, BOOKINGS), (
            ("b", "c", 1, 0), ("a", "c", 3, 10), ("b", "d", 1, 10), ("a", "d", 1, 20), ("c", "e", 2, 20)))
        self.assertEqual(connections(NET1, BOOKINGS[5:6]), ())
        self.assertEqual(connections(NET1, ()), ())

    def test_order_of_the_net(self):
        net = NET1[:3] + (NET1[3][::-1],) + NET1[4:]
        self.assertEqual(connections(net, BOOKINGS), (
            ("b", "c", 1, 0), ("b", "d", 1, 10), ("a", "c", 3, 10), ("c", "e", 2, 20), ("a", "d", 1, 20)))
        net = net_of([("x", "A", "B", 0, 50), ("z", "B", "C", 90, 100), ("y", "B", "D", 90, 100)])
        self.assertEqual(connections(net, (("1", "Y", ("x", "y")), ("2", "Y", ("x", "z")))),
                         (("x", "z", 1, 10), ("x", "y", 1, 10)))

    def test_least_minutes_of_the_stations(self):
        self.assertEqual(connections(NET, (("a", "Y", ("F", "G")), ("b", "C", ("H", "I", "J")))),
                         (("F", "G", 1, 0), ("H", "I", 1, 0), ("I", "J", 1, 110)))

    def test_against_the_words(self):
        for seed in range(100):
            net = random_net(seed, tails=4, longest=5)
            bookings = random_bookings(seed, net, 20)
            self.assertEqual(connections(net, bookings), told_connections(net, bookings))

    def test_errors(self):
        self.asks_the_net_first(connections, None)
        self.asks_the_net_first(weak_connections, None, None, None)
        for value in WRONG_BOOKINGS:
            self.wrong_argument("bookings", connections, NET, value)
            self.wrong_argument("bookings", weak_connections, NET, value, None, 9)
        for value in WRONG_THREATS:
            self.wrong_argument("threats", weak_connections, BOOK_NET, (), value, 9)
        for value in WRONG_NUMBERS:
            self.wrong_argument("events", weak_connections, NET, (), (), value)
        self.refused(TooMany, ("courses",), weak_connections, line(8), (), threats_of((2, 2, 2, 2, 1, 1, 1, 1)), 3)
        self.survives(connections, (NET1, BOOKINGS), InterlineError)
        self.survives(weak_connections, (NET1, BOOKINGS, (("cancel", "a"),), 1), InterlineError)


class WeakConnectionsTest(Case):

    def test_late_flights(self):
        for minutes, told in ((10, ()), (11, (("a", "c", 3, 1, (("late", "a", 11),)),)),
                              (20, (("a", "c", 3, 1, (("late", "a", 20),)),)),
                              (21, (("a", "c", 3, 1, (("late", "a", 21),)), ("a", "d", 1, 1, (("late", "a", 21),))))):
            self.assertEqual(weak_connections(NET1, BOOKINGS, (("late", "a", minutes),), 1), told)
        # The second flight is late as well.
        threats = (("late", "a", 21), ("late", "c", 11))
        self.assertEqual(weak_connections(NET1, BOOKINGS[1:2], threats, 2), (("a", "c", 1, 1, threats[:1]),))
        self.assertEqual(weak_connections(NET1, BOOKINGS, threats, 0), ())

    def test_cancelled_flights(self):
        # Without a its tail does not come to B, so c and e fall, too.
        self.assertEqual(actual(NET1, (("cancel", "a"),))[2], None)
        self.assertEqual(weak_connections(NET1, BOOKINGS, (("cancel", "a"),), 1), tuple(
            (one, two, many, 1, (("cancel", "a"),)) for one, two, many, _ in connections(NET1, BOOKINGS) if (one, two) != ("b", "d")))
        self.assertEqual(weak_connections(NET1, BOOKINGS, (("cancel", "e"),), 1), (("c", "e", 2, 1, (("cancel", "e"),)),))

    def test_number_and_first_course(self):
        threats = (("late", "e", 5), ("late", "a", 15), ("cancel", "e"))
        self.assertEqual(weak_connections(NET1, BOOKINGS[1:2], threats, 3), (
            ("a", "c", 1, 3, threats[1:2]), ("c", "e", 1, 2, threats[2:])))
        self.assertEqual(weak_connections(NET1, BOOKINGS[1:2], threats, 1), (
            ("a", "c", 1, 1, threats[1:2]), ("c", "e", 1, 1, threats[2:])))

    def test_against_the_words(self):
        numbers = set()
        for seed in range(100):
            net = random_net(seed, tails=4, longest=5)
            bookings = random_bookings(seed, net, 12)
            threats = tuple(dict.fromkeys(random_course(seed, net) + random_course(seed + 900, net)))
            told = told_weak(net, bookings, threats, seed % 4)
            self.assertEqual(weak_connections(net, bookings, threats, seed % 4), told)
            numbers |= {row[3] for row in told}
        self.assertGreater(len(numbers), 4)


class BusiestTest(Case):

    def test_spans(self):
        # At B: 50, 60, 90 and 100.
        for length, told in ((1, (1, 50)), (10, (1, 50)), (11, (2, 50)), (30, (2, 50)), (31, (2, 50)), (40, (2, 50)),
                             (41, (3, 50)), (50, (3, 50)), (51, (4, 50)), (20160, (4, 50))):
            self.assertEqual(busiest(NET1, "B", length), told)

    def test_several_at_one_time(self):
        net = net_of([("a", "A", "B", 0, 60), ("b", "C", "B", 10, 60, "U"), ("c", "B", "A", 60, 90, "V"), ("d", "B", "C", 20, 70, "S")],
                     types=(("T", 9, 0), ("U", 9, 0), ("V", 9, 0), ("S", 9, 0)))
        for length, told in ((1, (3, 60)), (40, (3, 60)), (41, (4, 20)), (20160, (4, 20))):
            self.assertEqual(busiest(net, "B", length), told)
        self.assertEqual(busiest(net, "A", 1), (1, 0))
        self.assertEqual(quietest(net, "B"), (40, 20))
        self.assertEqual(quietest(net, "A"), (90, 0))

    def test_none_and_one(self):
        net = net_of([("a", "A", "B", 7, 60)], stations=(("A", 0, 0), ("B", 0, 0), ("C", 0, 0)))
        self.assertEqual(busiest(net, "C", 100), (0, None))
        self.assertIsNone(quietest(net, "C"))
        self.assertEqual(busiest(net, "A", 100), (1, 7))
        self.assertIsNone(quietest(net, "A"))
        self.assertIsNone(quietest(net, "B"))

    def test_quietest(self):
        self.assertEqual(quietest(NET1, "B"), (30, 60))
        self.assertEqual(quietest(NET, "A"), (500, 100))
        self.assertEqual(quietest(NET, "C"), (100, 300))
        # Equal times: the first one; and no time at all between two at once.
        net = net_of([("a", "A", "B", 0, 50), ("b", "B", "A", 80, 90), ("c", "A", "B", 100, 110), ("d", "C", "D", 5, 70),
                      ("e", "E", "C", 2, 5, "U")], types=(("T", 9, 0), ("U", 9, 0)))
        self.assertEqual(quietest(net, "B"), (30, 50))
        self.assertEqual(quietest(net, "C"), (0, 5))
        self.assertEqual(busiest(net, "C", 1), (2, 5))

    def test_against_the_words(self):
        for seed in range(100):
            net = random_net(seed, tails=5, longest=6, stations=3, span=20)
            for name, _, _ in net[0]:
                times = times_at(net, name)
                for length in (1, 20, 100):
                    counts = [(sum(begin <= time < begin + length for time in times), begin) for begin in times]
                    told = max(counts, key=lambda row: (row[0], -row[1]), default=(0, None))
                    self.assertEqual(busiest(net, name, length), told)
                gaps = [(two - one, one) for one, two in zip(times, times[1:])]
                self.assertEqual(quietest(net, name), max(gaps, key=lambda row: (row[0], -row[1]), default=None))

    def test_errors(self):
        self.asks_the_net_first(busiest, None, None)
        self.asks_the_net_first(quietest, None)
        for value in WRONG_STATIONS:
            self.wrong_argument("station", busiest, NET, value, None)
            self.wrong_argument("station", quietest, NET, value)
        for value in (0, 20161, -1, True, None, "5", (), 10 ** 40):
            self.wrong_argument("length", busiest, NET, "A", value)
        self.survives(busiest, (NET, "A", 5), InterlineError)
        self.survives(quietest, (NET, "A"), InterlineError)


if __name__ == "__main__":
    unittest.main()
