"""Points 117 to 119: what no course breaks."""

import random
import unittest

from interline.courses import actual, courses
from interline.errors import InterlineError, TooMany
from interline.promises import promise, promises, safest
from tests.samples import NET, VALUES, Case, all_journeys, net_of, random_bookings, random_net, with_value
from tests.test_book import NET1 as BOOK_NET
from tests.test_book import WRONG_NUMBERS, WRONG_THREATS
from tests.test_broken import WRONG_BOOKINGS
from tests.test_courses import line, random_course, threats_of

FG = ("F", "G")
WRONG_JOURNEYS = (None, 5, "F", (), ["F"], ("X",), ("F", 1), ("G", "F"), ("F", "I"), ("F", "F"), (("F",),), True)


def told_days(net, rows):
    """Each course with what becomes of the flights in it."""
    return [(course, dict(zip([row[0] for row in net[3]], actual(net, course)))) for course in rows]


def told_promise(net, journey, days):
    """What points 117 and 118 tell, word for word."""
    least = {row[0]: row[2] for row in net[0]}
    start = {row[0]: row[1] for row in net[3]}
    arrivals = []
    for course, told in days:
        for leg, name in enumerate(journey):
            if told[name] is None:
                return ("broken", course, leg, "cancelled")
            if leg and told[name][0] - told[journey[leg - 1]][1] < least[start[name]]:
                return ("broken", course, leg, "missed")
        arrivals.append(told[journey[-1]][1])
    return ("kept", max(arrivals), days[arrivals.index(max(arrivals))][0])


def told_safest(net, start, end, earliest, days):
    """What point 119 tells, by asking for the promise of every journey."""
    found = []
    for row in all_journeys(net):
        ends = [flight[2] for flight in row]
        if row[0][1] == start and row[0][3] >= earliest and ends[-1] == end and end not in ends[:-1]:
            journey = tuple(flight[0] for flight in row)
            told = told_promise(net, journey, days)
            if told[0] == "kept":
                found.append((told[1], journey, told[2]))
    return min(found, key=lambda row: row[:2], default=None)


class PromiseTest(Case):

    def test_kept_and_broken_by_one_minute(self):
        # The tail that flies both makes up 20 minutes; at B a traveller needs 40, with which nothing can be made up.
        net = with_value(NET, 0, 1, 2, 30)
        threats = (("late", "F", 10), ("late", "F", 11))
        self.assertEqual(promise(net, FG, threats[:1], 1), ("kept", 300, ()))
        self.assertEqual(promise(net, FG, threats, 1), ("broken", threats[1:], 1, "missed"))
        self.assertEqual(promise(net, FG, threats, 0), ("kept", 300, ()))
        self.assertEqual(promise(net, ("F",), threats, 1), ("kept", 171, threats[1:]))

    def test_cancelled(self):
        threats = (("late", "F", 1), ("cancel", "G"), ("cancel", "F"))
        self.assertEqual(promise(NET, FG, threats, 1), ("broken", threats[:1], 1, "missed"))
        self.assertEqual(promise(NET, FG, threats[1:], 1), ("broken", threats[1:2], 1, "cancelled"))
        self.assertEqual(promise(NET, FG, threats[2:], 1), ("broken", threats[2:], 0, "cancelled"))
        self.assertEqual(promise(NET, ("J",), threats, 1), ("broken", threats[1:2], 0, "cancelled"))
        # The first course counts, not the first leg.
        self.assertEqual(promise(NET, FG, threats[1:] + threats[:1], 2)[1:], (threats[1:2], 1, "cancelled"))

    def test_the_first_course_with_the_latest_arrival(self):
        threats = (("late", "I", 5), ("late", "H", 9), ("late", "I", 7), ("smaller", "F", "U"))
        self.assertEqual(promise(NET, ("I",), threats, 1), ("kept", 297, threats[2:3]))
        self.assertEqual(promise(NET, ("I",), threats[:2], 2), ("kept", 295, threats[:1]))
        self.assertEqual(promise(NET, ("I",), threats, 2), ("kept", 297, threats[2:3]))
        self.assertEqual(promise(NET, ("I",), threats[3:], 1), ("kept", 290, ()))

    def test_seats_are_not_asked(self):
        net = with_value(NET, 1, 1, 1, 1)
        bookings = tuple((str(place), "Y", ("H", "I")) for place in range(9))
        self.assertEqual(promises(net, bookings, (), 0), (("kept", 290, ()),) * 9)

    def test_several_bookings(self):
        threats = (("late", "F", 1), ("late", "I", 500))
        bookings = (("a", "Y", FG), ("b", "C", ("H", "I")), ("c", "Y", ("J",)), ("d", "Y", ("F",)))
        self.assertEqual(promises(NET, bookings, threats, 1), (
            ("broken", threats[:1], 1, "missed"), ("kept", 790, threats[1:]), ("kept", 600, ()), ("kept", 161, threats[:1])))
        self.assertEqual(promises(NET, (), threats, 1), ())

    def test_against_the_words(self):
        seen = set()
        for seed in range(120):
            net = random_net(seed, tails=4, longest=6, span=100)
            bookings = random_bookings(seed, net, 12)
            threats = tuple(dict.fromkeys(random_course(seed, net) + random_course(seed + 900, net)))
            days = told_days(net, courses(net, threats, 2))
            told = tuple(told_promise(net, journey, days) for _, _, journey in bookings)
            self.assertEqual(promises(net, bookings, threats, 2), told)
            for (_, _, journey), row in list(zip(bookings, told))[:3]:
                self.assertEqual(promise(net, journey, threats, 2), row)
            seen |= {(row[0], row[-1] if row[0] == "broken" else len(row[2])) for row in told}
        self.assertLessEqual({("kept", 0), ("kept", 1), ("broken", "missed"), ("broken", "cancelled")}, seen)

    def test_errors(self):
        self.asks_the_net_first(promise, None, None, None)
        self.asks_the_net_first(promises, None, None, None)
        for value in WRONG_JOURNEYS:
            self.wrong_argument("journey", promise, NET, value, None, 9)
        for value in WRONG_BOOKINGS:
            self.wrong_argument("bookings", promises, NET, value, None, 9)
        for function, value in ((promise, ("F",)), (promises, (("a", "Y", ("F",)),))):
            for threats in WRONG_THREATS:
                self.wrong_argument("threats", function, BOOK_NET, value, threats, 9)
            for most in WRONG_NUMBERS:
                self.wrong_argument("events", function, NET, value, (), most)
            self.survives(function, (NET, value, (("cancel", "F"),), 1), InterlineError)
        threats = threats_of((2, 2, 2, 2, 1, 1, 1, 1))
        self.refused(TooMany, ("courses",), promise, line(8), ("f0",), threats, 3)
        self.refused(TooMany, ("courses",), promises, line(8), (), threats, 3)


class SafestTest(Case):

    def test_equal_arrivals(self):
        flights = [("z", "A", "C", 100, 200), ("b", "A", "B", 0, 60), ("c", "B", "C", 100, 200), ("d", "A", "C", 150, 200)]
        net = net_of(flights)
        self.assertEqual(safest(net, "A", "C", 0, (), 0), (200, ("b", "c"), ()))
        self.assertEqual(safest(net, "A", "C", 1, (), 0), (200, ("d",), ()))
        self.assertEqual(safest(net, "A", "C", 150, (), 0), (200, ("d",), ()))
        self.assertIsNone(safest(net, "A", "C", 151, (), 0))
        threats = (("late", "c", 1), ("cancel", "d"))
        self.assertEqual(safest(net, "A", "C", 0, threats, 1), (200, ("z",), ()))
        self.assertEqual(safest(net, "A", "B", 0, threats, 1), (60, ("b",), ()))
        self.assertIsNone(safest(net, "C", "A", 0, threats, 1))

    def test_the_latest_arrival_counts(self):
        net = net_of([("a", "A", "C", 0, 50), ("b", "A", "C", 0, 60)])
        threats = (("late", "a", 20), ("late", "b", 5))
        self.assertEqual(safest(net, "A", "C", 0, threats, 1), (65, ("b",), threats[1:]))
        self.assertEqual(safest(net, "A", "C", 0, threats[:1], 1), (60, ("b",), ()))
        self.assertEqual(safest(net, "A", "C", 0, (("late", "a", 10), ("late", "b", 5)), 1)[0], 60)
        self.assertIsNone(safest(net, "A", "C", 0, (("cancel", "a"), ("cancel", "b")), 1))
        self.assertEqual(safest(net, "A", "C", 0, (("cancel", "a"), ("cancel", "b")), 0), (50, ("a",), ()))

    def test_back_to_the_same_station(self):
        self.assertEqual(safest(NET, "A", "A", 0, (), 0), (600, ("F", "G", "J"), ()))
        self.assertEqual(safest(NET, "A", "A", 0, (("late", "F", 5),), 1), (600, ("H", "I", "J"), ()))
        self.assertIsNone(safest(NET, "A", "A", 101, (), 0))
        self.assertIsNone(safest(NET, "B", "B", 0, (), 0))
        net = line(4)
        self.assertEqual(safest(net, "A", "A", 0, (), 0), (150, ("f0", "f1"), ()))
        self.assertEqual(safest(net, "B", "B", 0, (), 0), (250, ("f1", "f2"), ()))

    def test_only_the_last_flight_ends_there(self):
        net = net_of([("a", "A", "B", 0, 50), ("b", "B", "A", 100, 150), ("c", "A", "B", 200, 250), ("d", "B", "C", 300, 350),
                      ("e", "C", "B", 400, 450)])
        self.assertEqual(safest(net, "A", "B", 0, (), 0), (50, ("a",), ()))
        self.assertEqual(safest(net, "A", "B", 1, (("late", "c", 9),), 1), (259, ("c",), (("late", "c", 9),)))
        self.assertIsNone(safest(net, "A", "B", 201, (), 0))

    def test_stations_may_come_twice_on_the_way(self):
        net = net_of([("a", "A", "B", 0, 50), ("b", "B", "A", 100, 150), ("c", "A", "C", 200, 250)])
        self.assertEqual(safest(net, "A", "C", 0, (), 0), (250, ("a", "b", "c"), ()))
        self.assertEqual(safest(net, "A", "C", 1, (), 0), (250, ("c",), ()))

    def test_against_the_words(self):
        seen = {"none": 0, "found": 0, "far": 0, "round": 0}
        for seed in range(60):
            chance = random.Random(seed)
            net = random_net(seed, tails=5, longest=6, span=100, stations=3)
            threats = tuple(dict.fromkeys(random_course(seed, net) + random_course(seed + 900, net)))[:3]
            days = told_days(net, courses(net, threats, 2))
            for start in "ABC":
                for end in "ABC":
                    earliest = chance.choice((0, 0, 100, 300))
                    told = told_safest(net, start, end, earliest, days)
                    self.assertEqual(safest(net, start, end, earliest, threats, 2), told)
                    seen["found" if told else "none"] += 1
                    seen["far"] += bool(told and len(told[1]) > 1)
                    seen["round"] += bool(told and start == end)
        self.assertTrue(all(many > 20 for many in seen.values()), seen)

    def test_errors(self):
        self.asks_the_net_first(safest, None, None, None, None, None)
        for value in (*VALUES, "T", ["A"]):
            if value != "A":
                self.wrong_argument("station", safest, NET, value, None, None, None, None)
                self.wrong_argument("station", safest, NET, value, "A", None, None, None)
                self.wrong_argument("station", safest, NET, "A", value, None, None, None)
        for value in (-1, 20161, None, True, "5", (), 10 ** 40):
            self.wrong_argument("earliest", safest, NET, "A", "B", value, None, None)
        for threats in WRONG_THREATS:
            self.wrong_argument("threats", safest, BOOK_NET, "A", "B", 0, threats, 9)
        for most in WRONG_NUMBERS:
            self.wrong_argument("events", safest, NET, "A", "B", 20160, (), most)
        self.survives(safest, (NET, "A", "C", 0, (("cancel", "F"),), 1), InterlineError)
        self.refused(TooMany, ("courses",), safest, line(8), "A", "B", 0, threats_of((2, 2, 2, 2, 1, 1, 1, 1)), 3)


if __name__ == "__main__":
    unittest.main()
