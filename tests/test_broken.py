"""Points 61 to 65: bookings that a course breaks."""

import unittest

from interline.broken import broken, free_seats
from interline.errors import InterlineError
from tests.samples import NET, VALUES, Case, net_of, random_bookings, random_net, with_value
from tests.test_courses import random_course, told_actual

WRONG_BOOKINGS = (
    None, 5, "a", True, [], ("a", "Y", ("F",)), (None,), (("a", "Y"),), (("a", "Y", ("F",), 0),),
    (("a", "X", ("F",)),), (("a", None, ("F",)),), (("a", 1, ("F",)),), ((1, "Y", ("F",)),), ((None, "Y", ("F",)),),
    (("a", "Y", ()),), (("a", "Y", "F"),), (("a", "Y", ["F"]),), (("a", "Y", ("X",)),), (("a", "Y", (1,)),),
    (("a", "Y", (("F",),)),), (("a", "Y", ("G", "F")),), (("a", "Y", ("F", "I")),), (("a", "Y", ("F", "F")),),
    (("a", "Y", ("F",)), ("a", "C", ("G",))), [("a", "Y", ("F",))], (["a", "Y", ("F",)],),
    (("a", "Y", ("F",)), ("b", "Y", ("G", "F"))), (("a", ("Y",), ("F",)),),
    tuple((str(place), "Y", ("F",)) for place in range(61)),
)


def told_breaks(net, bookings, course):
    """What points 62 and 63 tell, word for word: the leg and the reason for each booking, or None."""
    told = dict(zip([row[0] for row in net[3]], told_actual(net, course)))
    flights = {row[0]: row for row in net[3]}
    least = {row[0]: row[2] for row in net[0]}
    breaks = []
    for _, _, journey in bookings:
        found = None
        for leg, name in enumerate(journey):
            if found is None and told[name] is None:
                found = (leg, "cancelled")
            if found is None and leg and told[name][0] - told[journey[leg - 1]][1] < least[flights[name][1]]:
                found = (leg, "missed")
        breaks.append(found)
    visited = [name for name in flights if told[name] is not None]
    visited.sort(key=lambda name: told[name][0])
    for name in visited:
        here = []
        for place, (_, cabin, journey) in enumerate(bookings):
            end = len(journey) if breaks[place] is None else breaks[place][0]
            if name in journey[:end]:
                here.append((net[2].index(cabin), place))
        here.sort()
        while len(here) > told[name][2]:
            _, place = here.pop()
            breaks[place] = (bookings[place][2].index(name), "bumped")
    return told, breaks


def told_broken(net, bookings, course):
    told, breaks = told_breaks(net, bookings, course)
    flights = {row[0]: row for row in net[3]}
    rows = []
    for (_, _, journey), found in zip(bookings, breaks):
        if found is None:
            rows.append(None)
        else:
            leg, reason = found
            flight = flights[journey[leg]]
            rows.append((leg, flight[1], told[journey[leg - 1]][1] if leg else flight[3], reason))
    return tuple(rows)


def told_free(net, bookings, course):
    told, breaks = told_breaks(net, bookings, course)
    carried = [journey[:found[0]] if found else journey for (_, _, journey), found in zip(bookings, breaks)]
    return tuple(told[name] and told[name][2] - sum(name in row for row in carried) for name in told)


class BrokenTest(Case):

    def test_kept(self):
        bookings = (("a", "Y", ("F", "G")), ("b", "C", ("H", "I", "J")), ("c", "Y", ("J",)))
        self.assertEqual(broken(NET, bookings, ()), (None, None, None))
        self.assertEqual(free_seats(NET, bookings, ()), (2, 2, 1, 1, 1))
        self.assertEqual((broken(NET, (), ()), free_seats(NET, (), ())), ((), (3, 3, 2, 2, 3)))

    def test_cancelled(self):
        bookings = (("a", "Y", ("F", "G")), ("b", "C", ("H", "I", "J")), ("c", "Y", ("J",)))
        self.assertEqual(broken(NET, bookings, (("cancel", "G"),)), (
            (1, "B", 160, "cancelled"), (2, "C", 290, "cancelled"), (0, "C", 400, "cancelled")))
        self.assertEqual(free_seats(NET, bookings, (("cancel", "G"),)), (2, None, 1, 1, None))
        self.assertEqual(broken(NET, bookings, (("cancel", "F"), ("late", "I", 7))), (
            (0, "A", 100, "cancelled"), (2, "C", 297, "cancelled"), (0, "C", 400, "cancelled")))
        # A delay of the flight ahead is told by its arrival in the course.
        self.assertEqual(broken(NET, bookings[:1], (("late", "F", 9), ("cancel", "G"))), ((1, "B", 169, "cancelled"),))

    def test_missed(self):
        # At B a traveller needs 40 minutes, and the tail that waits for F needs 20.
        bookings = (("a", "Y", ("F", "G")), ("b", "Y", ("G",)), ("c", "Y", ("H", "I")))
        self.assertEqual(broken(NET, bookings, (("late", "F", 1),)), ((1, "B", 161, "missed"), None, None))
        self.assertEqual(free_seats(NET, bookings, (("late", "F", 1),)), (2, 2, 1, 1, 3))
        self.assertEqual(broken(NET, bookings, (("late", "F", 1), ("late", "G", 1))), (None, None, None))
        self.assertEqual(broken(NET, bookings, (("late", "H", 20),)), (None, None, (1, "D", 200, "missed")))
        net = with_value(NET, 0, 3, 2, 0)
        self.assertEqual(broken(net, bookings, (("late", "H", 21),)), (None, None, None))

    def test_only_the_first_break_counts(self):
        bookings = (("a", "Y", ("F", "G", "J")),)
        self.assertEqual(broken(NET, bookings, (("late", "F", 1), ("cancel", "J"))), ((1, "B", 161, "missed"),))
        self.assertEqual(broken(NET, bookings, (("late", "F", 1), ("cancel", "G"))), ((1, "B", 161, "cancelled"),))
        self.assertEqual(broken(NET, bookings, (("cancel", "F"), ("cancel", "G"))), ((0, "A", 100, "cancelled"),))

    def test_no_longest_wait_in_a_course(self):
        net = net_of([("F", "A", "B", 0, 60), ("G", "B", "C", 1500, 1600)])
        bookings = (("a", "Y", ("F", "G")),)
        self.assertEqual(broken(net, bookings, (("late", "G", 1440),)), (None,))

    def test_bumped_by_rank_and_by_the_order_of_sale(self):
        bookings = tuple((name, cabin, ("F",)) for name, cabin in
                         (("a", "Y"), ("b", "C"), ("c", "Y"), ("d", "C"), ("e", "Y")))
        bumped = (0, "A", 100, "bumped")
        self.assertEqual(broken(NET, bookings, ()), (None, None, bumped, None, bumped))
        self.assertEqual(broken(NET, bookings, (("smaller", "F", "U"),)), (bumped, None, bumped, None, bumped))
        self.assertEqual(free_seats(NET, bookings, ()), (0, 3, 2, 2, 3))
        net = with_value(NET, 1, 1, 1, 1)
        self.assertEqual(broken(net, bookings, (("smaller", "F", "U"),)), (bumped, None, bumped, bumped, bumped))

    def test_those_who_are_bumped_are_not_carried_further(self):
        bookings = (("a", "C", ("F",)), ("b", "C", ("F",)), ("c", "C", ("F",)), ("d", "Y", ("F", "G")),
                    ("e", "Y", ("G",)), ("f", "Y", ("G",)), ("g", "Y", ("G",)))
        self.assertEqual(broken(NET, bookings, ()), (None, None, None, (0, "A", 100, "bumped"), None, None, None))
        self.assertEqual(free_seats(NET, bookings, ()), (0, 0, 2, 2, 3))

    def test_those_who_miss_a_flight_leave_their_seats(self):
        bookings = (("a", "C", ("F", "G")), ("b", "Y", ("G",)), ("c", "Y", ("G",)), ("d", "Y", ("G",)))
        self.assertEqual(broken(NET, bookings, ())[3], (0, "B", 200, "bumped"))
        self.assertEqual(broken(NET, bookings, (("late", "F", 5),)), ((1, "B", 165, "missed"), None, None, None))

    def test_a_traveller_who_misses_a_flight_may_be_bumped_ahead_of_it(self):
        bookings = (("a", "Y", ("F",)), ("b", "Y", ("F",)), ("c", "Y", ("F",)), ("d", "Y", ("F", "G")))
        self.assertEqual(broken(NET, bookings, (("late", "F", 5),))[3], (0, "A", 100, "bumped"))
        # The told departure counts for the first flight, not the one in the course.
        self.assertEqual(broken(NET, bookings, (("late", "F", 500),))[3], (0, "A", 100, "bumped"))

    def test_bumped_on_a_further_flight(self):
        bookings = (("a", "Y", ("H", "I")), ("b", "Y", ("I",)), ("c", "Y", ("I",)), ("d", "C", ("I",)))
        self.assertEqual(broken(NET, bookings, (("late", "H", 0 + 1), ("late", "I", 30))),
                         (None, (0, "D", 200, "bumped"), (0, "D", 200, "bumped"), None)[:4])
        bookings = (("b", "Y", ("I",)), ("d", "C", ("I",)), ("a", "Y", ("H", "I")))
        told = broken(NET, bookings, (("late", "H", 7), ("late", "I", 30)))
        self.assertEqual(told, (None, None, (1, "D", 187, "bumped")))

    def test_flights_of_one_departure_in_the_order_of_the_net(self):
        # Both p and q are full of travellers who go on to the flight of the other sort of station.
        flights = [("p", "A", "B", 100, 150), ("q", "A", "C", 100, 150), ("r", "B", "D", 200, 250),
                   ("s", "C", "D", 200, 250)]
        net = net_of(flights, types=(("T", 1, 0),))
        bookings = (("a", "Y", ("p", "r")), ("b", "Y", ("q", "s")), ("c", "Y", ("p", "r")), ("d", "Y", ("q",)))
        bumped = (0, "A", 100, "bumped")
        self.assertEqual(broken(net, bookings, ()), (None, None, bumped, bumped))

    def test_the_order_of_departures_in_the_course(self):
        # As told, F is visited ahead of G; in the course it departs later, but nobody is carried on both.
        for seed in range(120):
            net = random_net(seed, tails=4, longest=6)
            bookings = random_bookings(seed, net, 14)
            for turn in range(5):
                course = random_course(1000 * seed + turn, net)
                self.assertEqual(broken(net, bookings, course), told_broken(net, bookings, course))
                self.assertEqual(free_seats(net, bookings, course), told_free(net, bookings, course))

    def test_all_reasons_come_up(self):
        reasons = {}
        for seed in range(120):
            net = random_net(seed, tails=4, longest=6)
            for told in broken(net, random_bookings(seed, net, 14), random_course(1000 * seed, net)):
                key = told and (told[3], min(told[0], 1))
                reasons[key] = reasons.get(key, 0) + 1
        self.assertEqual(set(reasons), {None, ("cancelled", 0), ("cancelled", 1), ("missed", 1), ("bumped", 0),
                                        ("bumped", 1)})

    def test_bookings(self):
        names = ("", "a", "a b", "\u00e9", "x" * 500, "(", "1", "\x00")
        bookings = tuple((name, "Y", ("F",)) for name in names)
        self.assertEqual(len(broken(NET, bookings, ())), 8)
        many = tuple((str(place), "Y", ("F",)) for place in range(60))
        self.assertEqual(broken(NET, many, ()).count(None), 3)
        for value in WRONG_BOOKINGS:
            for function in (broken, free_seats):
                self.wrong_argument("bookings", function, NET, value, ())

    def test_order_of_the_errors(self):
        for function in (broken, free_seats):
            self.asks_the_net_first(function, None, None)
            for value in VALUES:
                if value != ():
                    self.wrong_argument("course", function, NET, None, value)
                    self.wrong_argument("bookings", function, NET, value, ())
            self.survives(function, (NET, (("a", "Y", ("F",)),), (("cancel", "F"),)), InterlineError)


if __name__ == "__main__":
    unittest.main()
