"""Points 50 to 53: bags that are left behind, and how they get home."""

import random
import unittest

from interline.bags import accept_bag_times, bag_times, forward, short
from interline.errors import InterlineError
from interline.words import read_net
from tests.samples import NET, VALUES, Case, damaged, net_of, random_bookings, random_net, with_value
from tests.test_broken import WRONG_BOOKINGS, told_breaks
from tests.test_courses import random_course, told_actual

# G departs 40 minutes behind F, and a bag needs 60 at B; I departs 20 behind H, and a bag needs 40 at D.
FG = (("a", "Y", ("F", "G")),)
HI = (("b", "Y", ("H", "I")),)


def told_short(net, bookings, course):
    """What point 50 tells, word for word."""
    told, breaks = told_breaks(net, bookings, course)
    least = {row[0]: row[2] for row in net[0]}
    start = {row[0]: row[1] for row in net[3]}
    rows = []
    for (_, _, journey), found in zip(bookings, breaks):
        end = found[0] if found else len(journey)
        left = [leg for leg in range(1, end)
                if told[journey[leg]][0] - told[journey[leg - 1]][1] < least[start[journey[leg]]] + 20]
        rows.append((left[0], start[journey[left[0]]], told[journey[left[0] - 1]][1]) if left else None)
    return tuple(rows)


def told_times(net, course, station, time):
    """The earliest times, by asking all flights again and again until nothing changes."""
    told = dict(zip([row[0] for row in net[3]], told_actual(net, course)))
    least = {row[0]: row[2] for row in net[0]}
    times = {name: None for name in least}
    times[station] = time
    changed = True
    while changed:
        changed = False
        for row in net[3]:
            name, start, end = row[:3]
            if told[name] is None or times[start] is None or told[name][0] < times[start] + least[start] + 20:
                continue
            if times[end] is None or told[name][1] < times[end]:
                times[end] = told[name][1]
                changed = True
    return tuple(times.values())


class ShortTest(Case):

    def test_examples(self):
        text = ("(station A 0 30) (station B 0 30) (station C 0 30) (type T 9 20) (classes Y)"
                "(flight F A B 0 60 T 100 (limits 9)) (flight G B C 100 150 T 100 (limits 9)) (tail N T F G)")
        net = read_net(text)
        self.assertEqual(short(net, (("Ann", "Y", ("F", "G")),), ()), ((1, "B", 60),))
        self.assertEqual(bag_times(net, (), "B", 0), (None, 0, 150))

    def test_by_one_minute(self):
        for least, told in ((20, None), (21, (1, "B", 160))):
            net = with_value(NET, 0, 1, 2, least)
            self.assertEqual(short(net, FG, ()), (told,))
        net = with_value(NET, 0, 1, 2, 10)
        self.assertEqual(short(net, FG, (("late", "F", 10),)), (None,))
        self.assertEqual(short(net, FG, (("late", "F", 11),)), ((1, "B", 171),))
        # The times of the course count, of both flights.
        self.assertEqual(short(net, FG, (("late", "F", 11), ("late", "G", 1))), (None,))
        self.assertEqual(short(NET, FG, (("late", "G", 20),)), (None,))
        self.assertEqual(short(NET, FG, (("late", "G", 19),)), ((1, "B", 160),))

    def test_only_flights_that_carry_the_traveller(self):
        self.assertEqual(short(NET, FG + HI, (("cancel", "G"),)), (None, (1, "D", 180)))
        self.assertEqual(short(NET, FG, (("cancel", "F"),)), (None,))
        self.assertEqual(short(NET, FG, (("late", "F", 1),)), (None,))
        many = tuple((str(place), "C", ("G",)) for place in range(3))
        self.assertEqual(short(NET, many + FG, ()), (None,) * 4)

    def test_the_first_of_several_flights(self):
        flights = [("p", "A", "B", 0, 60), ("q", "B", "C", 100, 160), ("r", "C", "D", 200, 260), ("s", "D", "A", 300, 360)]
        for least, leg in ((30, 1), (20, None)):
            net = net_of(flights, least=least)
            told = short(net, (("a", "Y", ("p", "q", "r", "s")), ("b", "Y", ("p",))), ())
            self.assertEqual(told, (leg and (1, "B", 60), None))
        net = with_value(net_of(flights, least=0), 0, 3, 2, 25)
        self.assertEqual(short(net, (("a", "Y", ("p", "q", "r", "s")),), ()), ((3, "D", 260),))

    def test_against_the_words(self):
        seen = set()
        for seed in range(150):
            net = random_net(seed, tails=4, longest=6)
            bookings = random_bookings(seed, net, 14)
            for turn in range(3):
                course = random_course(1000 * seed + turn, net)
                told = told_short(net, bookings, course)
                self.assertEqual(short(net, bookings, course), told)
                seen |= {row and row[0] for row in told}
        self.assertLessEqual({None, 1, 2}, seen)

    def test_order_of_the_errors(self):
        for function in (short, forward):
            self.asks_the_net_first(function, None, None)
            for value in WRONG_BOOKINGS:
                self.wrong_argument("bookings", function, NET, value, ())
                self.wrong_argument("course", function, NET, value, (("cancel", "X"),))
            for value in VALUES:
                if value != ():
                    self.wrong_argument("course", function, NET, None, value)
            self.survives(function, (NET, FG, (("cancel", "F"),)), InterlineError)


class BagTimesTest(Case):

    def test_minutes(self):
        for time, end in ((140, 300), (141, None)):
            told = bag_times(NET, (), "B", time)
            self.assertEqual(told[1:3], (time, end))
        self.assertEqual(bag_times(NET, (("late", "G", 7),), "B", 147)[2], 307)
        self.assertEqual(bag_times(NET, (("cancel", "G"),), "B", 0), (None, 0, None, None))
        self.assertEqual(bag_times(NET, (), "A", 50), (50, 160, None, 180))
        # From C the bag needs 20 minutes, and back at A it stands earlier than it gets there.
        self.assertEqual(bag_times(NET, (), "C", 380), (600, None, 380, None))
        self.assertEqual(bag_times(NET, (), "C", 381), (None, None, 381, None))
        self.assertEqual(bag_times(NET, (), "A", 20160), (20160, None, None, None))

    def test_any_number_of_flights_and_any_time_between(self):
        flights = [(f"f{place}", "ABCDEFGHIJK"[place], "BCDEFGHIJKL"[place], 1800 * place, 1800 * place + 60)
                   for place in range(11)]
        net = net_of(flights, least=0)
        told = bag_times(net, (("late", "f10", 1440),), "B", 0)
        self.assertEqual(told, (None, 0, *(1800 * place + 60 for place in range(1, 10)), 19500))
        self.assertEqual(bag_times(net, (("late", "f1", 1440), ("late", "f10", 1440)), "A", 0)[-1], None)

    def test_the_earliest_of_several_ways(self):
        flights = [("p", "A", "B", 100, 150), ("q", "B", "C", 170, 180), ("r", "A", "C", 100, 190),
                   ("s", "A", "C", 101, 179)]
        net = net_of(flights, least=0)
        self.assertEqual(bag_times(net, (), "A", 0), (0, 150, 179))
        self.assertEqual(bag_times(net, (("cancel", "s"),), "A", 0), (0, 150, 180))
        self.assertEqual(bag_times(net, (("late", "s", 1),), "A", 0), (0, 150, 180))
        self.assertEqual(bag_times(net, (("late", "s", 2), ("late", "p", 1)), "A", 0), (0, 151, 181))

    def test_against_the_words(self):
        full = 0
        for seed in range(200):
            chance = random.Random(seed)
            net = random_net(seed, tails=5, longest=7)
            course = random_course(seed, net)
            station, time = chance.choice(net[0])[0], chance.choice((0, 30, 100, 250))
            told = told_times(net, course, station, time)
            self.assertEqual(bag_times(net, course, station, time), told)
            self.assertIsNone(accept_bag_times(net, course, station, time, told))
            full += None not in told
            for value in damaged(told):
                reason = "entry" if self.has_form(value, len(told)) else "form"
                self.wrong_paper(reason, accept_bag_times, net, course, station, time, value)
        self.assertGreater(full, 30)

    def has_form(self, value, size):
        return (type(value) is tuple and len(value) == size
                and all(part is None or type(part) is int for part in value))

    def test_wrong_tables(self):
        told = (50, 160, None, 180)
        self.assertIsNone(accept_bag_times(NET, (), "A", 50, told))
        for value in ((50, 160, None), (50, 160, None, 180, None), list(told), (50, 160, False, 180), None, 5,
                      (50, "160", None, 180), ((50,), 160, None, 180), ()):
            self.wrong_paper("form", accept_bag_times, NET, (), "A", 50, value)
        for value in ((51, 160, None, 180), (None, 160, None, 180), (50, 161, None, 180), (50, None, None, 180),
                      (50, 160, 300, 180), (50, 160, 290, 180), (None,) * 4, (50, 159, None, 180)):
            self.wrong_paper("entry", accept_bag_times, NET, (), "A", 50, value)
        # The entry of the station itself is not one that flights lead to.
        self.wrong_paper("entry", accept_bag_times, NET, (), "C", 380, (600, None, None, None))
        # Entries that bear each other, but not the time that is told.
        self.wrong_paper("entry", accept_bag_times, NET, (), "C", 381, (600, None, 381, None))
        self.survives_papers(accept_bag_times, (NET, (), "A", 50), [told])

    def test_order_of_the_errors(self):
        for function, rest in ((bag_times, ()), (accept_bag_times, (None,))):
            self.asks_the_net_first(function, None, None, None, *rest)
            for value in VALUES:
                if value != ():
                    self.wrong_argument("course", function, NET, value, None, None, *rest)
                if value != "A":
                    self.wrong_argument("station", function, NET, (), value, None, *rest)
                if type(value) is not int or not 0 <= value <= 20160:
                    self.wrong_argument("time", function, NET, (), "A", value, *rest)
            for time in (-1, 20161, True, "5"):
                self.wrong_argument("time", function, NET, (), "A", time, *rest)
        self.survives(bag_times, (NET, (("cancel", "F"),), "A", 0), InterlineError)
        self.survives(accept_bag_times, (NET, (), "A", 50, (50, 160, None, 180)), InterlineError)


class ForwardTest(Case):

    def test_ways(self):
        flights = [("p", "A", "B", 0, 60), ("q", "B", "C", 100, 150), ("r", "B", "D", 110, 160), ("s", "D", "C", 300, 400),
                   ("t", "B", "C", 350, 390)]
        net = net_of(flights, least=30)
        bookings = (("a", "Y", ("p", "q")), ("b", "Y", ("p", "r")), ("c", "Y", ("q",)))
        self.assertEqual(forward(net, bookings, ()), ((390, ("t",)), None, None))
        self.assertEqual(forward(net, bookings, (("late", "t", 10),))[0][0], 400)
        self.assertEqual(forward(net, bookings, (("late", "t", 11),)), ((400, ("r", "s")), None, None))
        self.assertEqual(forward(net, bookings, (("cancel", "t"), ("cancel", "s"))), ((), None, None))
        self.assertEqual(forward(net, (), ()), ())

    def test_home_is_where_the_bag_stands(self):
        flights = [("p", "A", "B", 0, 60), ("q", "B", "C", 100, 150), ("r", "C", "B", 200, 260)]
        net = with_value(net_of(flights, least=30), 0, 1, 2, 30)
        self.assertEqual(forward(net, (("a", "Y", ("p", "q", "r")),), ()), ((60, ()),))

    def test_against_the_words(self):
        kinds = set()
        for seed in range(300):
            net = random_net(seed, tails=5, longest=7)
            bookings = random_bookings(seed, net, 10)
            course = random_course(seed, net)
            told = dict(zip([row[0] for row in net[3]], told_actual(net, course)))
            ends = {row[0]: row[2] for row in net[3]}
            names = [row[0] for row in net[0]]
            found = forward(net, bookings, course)
            self.assertEqual(len(found), len(bookings))
            for (_, _, journey), left, way in zip(bookings, told_short(net, bookings, course), found):
                if left is None:
                    self.assertIsNone(way)
                    kinds.add(None)
                    continue
                _, station, time = left
                home = told_times(net, course, station, time)[names.index(ends[journey[-1]])]
                if home is None:
                    self.assertEqual(way, ())
                    kinds.add(())
                    continue
                self.assertEqual(way[0], home)
                kinds.add(min(2, len(way[1])))
                self.leads(net, told, station, time, way, ends[journey[-1]])
        self.assertEqual(kinds, {None, (), 0, 1, 2})

    def leads(self, net, told, station, time, way, end):
        """The flights of the way bring the bag to the end at the time."""
        least = {row[0]: row[2] for row in net[0]}
        flights = {row[0]: row for row in net[3]}
        self.assertIsInstance(way[1], tuple)
        for name in way[1]:
            self.assertEqual(flights[name][1], station)
            self.assertGreaterEqual(told[name][0], time + least[station] + 20)
            station, time = flights[name][2], told[name][1]
        self.assertEqual((station, time), (end, way[0]))


if __name__ == "__main__":
    unittest.main()
