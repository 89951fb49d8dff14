"""Points 20 to 24: journeys."""

import unittest

from interline.errors import InterlineError, TooMany
from interline.journeys import accept_legs, front, journeys, legs, reach
from interline.words import read_net
from tests.samples import NET, VALUES, Case, all_journeys, damaged, net_of, random_net, with_value

EXAMPLE = ("(station A 0 30) (station B 0 30) (station C 0 30) (type T 9 20) (classes Y)"
           "(flight F A B 0 60 T 100 (limits 9)) (flight G B C 90 150 T 100 (limits 9)) (tail N T F G)")


def names(row):
    return tuple(flight[0] for flight in row)


def simple(row):
    stations = [row[0][1]] + [flight[2] for flight in row]
    return len(set(stations)) == len(stations)


def tried_journeys(net, start, end, earliest, latest, stops):
    """What point 21 tells, by trying every row of flights."""
    rows = [row for row in all_journeys(net)
            if row[0][1] == start and row[-1][2] == end and simple(row) and len(row) <= stops + 1
            and row[0][3] >= earliest and row[-1][4] <= latest]
    rows.sort(key=lambda row: (row[-1][4], -row[0][3], len(row), names(row)))
    return rows


def beats(one, two):
    mine, other = ((row[0][3], -row[-1][4], -len(row)) for row in (one, two))
    return all(a >= b for a, b in zip(mine, other)) and mine != other


def crowd(sizes):
    """Flights from A to B, from B to C and so on, so many of each, that can all follow one another."""
    return [(f"f{leg}{place}", "ABCDE"[leg], "ABCDE"[leg + 1], 100 * leg, 100 * leg + 50)
            for leg, size in enumerate(sizes) for place in range(size)]


class JourneysTest(Case):

    def test_example(self):
        net = read_net(EXAMPLE)
        self.assertEqual(journeys(net, "A", "C", 0, 200, 1), (("F", "G"),))
        self.assertEqual(legs(net, "A", 0), (1, 2))

    def test_sample(self):
        self.assertEqual(journeys(NET, "A", "C", 0, 20160, 3), (("H", "I"), ("F", "G")))
        self.assertEqual(journeys(NET, "A", "C", 0, 20160, 0), ())
        self.assertEqual(journeys(NET, "B", "A", 0, 20160, 1), (("G", "J"),))
        self.assertEqual(journeys(NET, "D", "B", 0, 20160, 3), ())

    def test_against_all_rows(self):
        for seed in range(40):
            net = random_net(seed, stations=3 + seed % 3, tails=4)
            for start, end in (("A", "B"), ("B", "C"), ("C", "A")):
                for earliest, latest, stops in ((0, 20160, 3), (0, 20160, 1), (0, 20160, 2), (90, 300, 3), (0, 250, 0)):
                    rows = tried_journeys(net, start, end, earliest, latest, stops)
                    told = journeys(net, start, end, earliest, latest, stops)
                    self.assertEqual(told, tuple(names(row) for row in rows))
                    best = [row for row in rows if not any(beats(other, row) for other in rows)]
                    told = front(net, start, end, earliest, latest, stops)
                    self.assertEqual(told, tuple(names(row) for row in best))

    def test_order(self):
        flights = (("late", "A", "B", 10, 400), ("z", "A", "B", 100, 300), ("y", "A", "B", 120, 300),
                   ("x", "A", "B", 120, 300), ("v", "A", "C", 120, 150), ("w", "C", "B", 200, 300),
                   ("soon", "A", "B", 0, 299))
        told = journeys(net_of(flights), "A", "B", 0, 20160, 3)
        self.assertEqual(told, (("soon",), ("x",), ("y",), ("v", "w"), ("z",), ("late",)))

    def test_equal_arrivals_in_the_order_of_the_tuples(self):
        flights = (("a", "A", "X", 0, 10), ("b", "A", "Y", 0, 10), ("c", "X", "B", 50, 90), ("d", "Y", "B", 50, 90),
                   ("C", "X", "B", 50, 90))
        told = journeys(net_of(flights), "A", "B", 0, 20160, 3)
        self.assertEqual(told, (("a", "C"), ("a", "c"), ("b", "d")))

    def test_times_asked_for(self):
        self.assertEqual(journeys(NET, "A", "C", 100, 290, 3), (("H", "I"),))
        self.assertEqual(journeys(NET, "A", "C", 100, 300, 3), (("H", "I"), ("F", "G")))
        self.assertEqual(journeys(NET, "A", "C", 101, 300, 3), ())
        self.assertEqual(journeys(NET, "A", "C", 100, 289, 3), ())
        self.assertEqual(journeys(NET, "A", "C", 20160, 0, 3), ())

    def test_waits(self):
        for least in (0, 30, 600):
            for wait in (least - 1, least, least + 1, 1439, 1440, 1441):
                if wait >= 0:
                    flights = (("F", "A", "B", 0, 60), ("G", "B", "C", 60 + wait, 100 + wait))
                    told = journeys(net_of(flights, least=least), "A", "C", 0, 20160, 3)
                    self.assertEqual(told, (("F", "G"),) if least <= wait <= 1440 else ())

    def test_the_least_minutes_are_those_of_the_station_between(self):
        stations = (("A", 0, 600), ("B", 0, 7), ("C", 0, 600))
        flights = (("F", "A", "B", 0, 60), ("G", "B", "C", 67, 100))
        self.assertEqual(journeys(net_of(flights, stations=stations), "A", "C", 0, 20160, 3), (("F", "G"),))

    def test_zones_do_not_count(self):
        stations = (("A", 840, 30), ("B", -720, 30), ("C", 300, 30))
        flights = (("F", "A", "B", 0, 60), ("G", "B", "C", 90, 100))
        self.assertEqual(journeys(net_of(flights, stations=stations), "A", "C", 0, 100, 3), (("F", "G"),))

    def test_journeys_are_simple(self):
        flights = (("a", "A", "B", 0, 10), ("b", "B", "A", 50, 60), ("c", "A", "C", 100, 110),
                   ("d", "B", "C", 50, 60), ("e", "C", "B", 100, 110), ("f", "B", "D", 150, 160),
                   ("g", "C", "D", 150, 160))
        net = net_of(flights)
        self.assertEqual(journeys(net, "A", "D", 0, 20160, 3), (("c", "g"), ("a", "f"), ("a", "d", "g")))
        self.assertEqual(journeys(net, "A", "C", 0, 20160, 3), (("a", "d"), ("c",)))

    def test_connections(self):
        flights = tuple((f"f{place}", "ABCDE"[place], "ABCDE"[place + 1], 100 * place, 100 * place + 50)
                        for place in range(4))
        net = net_of(flights + (("x", "E", "F", 500, 550),))
        for stops in range(4):
            told = journeys(net, "A", "E", 0, 20160, stops)
            self.assertEqual(told, (("f0", "f1", "f2", "f3"),) if stops == 3 else ())
            self.assertEqual(len(journeys(net, "A", "C", 0, 20160, stops)), int(stops >= 1))
        self.assertEqual(journeys(net, "A", "F", 0, 20160, 3), ())

    def test_as_many_journeys_as_allowed(self):
        net = net_of(crowd((4, 5, 4, 5)))
        self.assertEqual(len(journeys(net, "A", "E", 0, 20160, 3)), 400)
        self.assertEqual(len(front(net, "A", "E", 0, 20160, 3)), 400)
        net = net_of(crowd((8, 9, 5)) + [("y", "A", "D", 0, 250), ("z", "A", "D", 1, 250)])
        self.assertEqual(len(journeys(net, "A", "D", 0, 20160, 3)), 362)
        self.assertEqual(front(net, "A", "D", 0, 20160, 3), (("z",),))

    def test_too_many_journeys(self):
        net = net_of(crowd((4, 5, 4, 5)) + [("z", "A", "E", 0, 450)])
        for function in (journeys, front):
            self.refused(TooMany, ("journeys",), function, net, "A", "E", 0, 20160, 3)
            self.assertLess(len(function(net, "A", "E", 0, 449, 3)), 401)
            self.assertEqual(function(net, "A", "E", 0, 20160, 2), (("z",),))
        net = net_of(crowd((10, 10, 10, 10)))
        self.refused(TooMany, ("journeys",), journeys, net, "A", "E", 0, 20160, 3)
        self.refused(TooMany, ("journeys",), journeys, net, "A", "D", 0, 20160, 3)
        self.assertEqual(len(journeys(net, "A", "C", 0, 20160, 3)), 100)


class PapersOfLegsTest(Case):

    def test_sample(self):
        self.assertEqual(legs(NET, "A", 0), (1, 2, 1, 2, 3))
        self.assertEqual(legs(NET, "A", 100), (1, 2, 1, 2, 3))
        self.assertEqual(legs(NET, "A", 101), (None,) * 5)
        self.assertEqual(legs(NET, "B", 0), (None, 1, None, None, 2))
        self.assertEqual(reach(NET, "A", 0), (0, 160, 290, 180))
        self.assertEqual(reach(NET, "A", 101), (101, None, None, None))
        self.assertEqual(reach(NET, "B", 200), (600, 200, 300, None))
        self.assertEqual(reach(NET, "D", 0), (600, None, 290, 0))

    def test_against_all_rows(self):
        for seed in range(40):
            net = random_net(seed, stations=3 + seed % 3, tails=4, longest=6)
            for station in ("A", "B", "C"):
                for time in (0, 120):
                    rows = [row for row in all_journeys(net) if row[0][1] == station and row[0][3] >= time]
                    told = tuple(min([len(row) for row in rows if row[-1] == flight], default=None)
                                 for flight in net[3])
                    self.assertEqual(legs(net, station, time), told)
                    self.assertIsNone(accept_legs(net, station, time, told))
                    ends = tuple(time if name == station else
                                 min([row[-1][4] for row in rows if row[-1][2] == name], default=None)
                                 for name, _, _ in net[0])
                    self.assertEqual(reach(net, station, time), ends)

    def test_no_more_than_four_flights(self):
        flights = tuple((f"f{place}", "ABCDEF"[place], "ABCDEF"[place + 1], 100 * place, 100 * place + 50)
                        for place in range(5))
        net = net_of(flights)
        self.assertEqual(legs(net, "A", 0), (1, 2, 3, 4, None))
        self.assertEqual(reach(net, "A", 0), (0, 50, 150, 250, 350, None))
        self.assertIsNone(accept_legs(net, "A", 0, (1, 2, 3, 4, None)))
        self.wrong_paper("entry", accept_legs, net, "A", 0, (1, 2, 3, 4, 5))

    def test_journeys_need_not_be_simple(self):
        flights = (("a", "A", "B", 0, 10), ("b", "B", "A", 50, 60), ("c", "A", "C", 100, 110))
        net = net_of(flights)
        self.assertEqual(legs(net, "A", 0), (1, 2, 1))
        self.assertEqual(legs(net, "B", 0), (None, 1, 2))
        flights = (("a", "A", "B", 0, 10), ("b", "B", "C", 50, 60), ("c", "C", "B", 100, 110),
                   ("d", "B", "D", 1480, 1490))
        self.assertEqual(legs(net_of(flights), "A", 0), (1, 2, 3, 4))

    def test_the_least_of_several(self):
        flights = (("a", "A", "B", 0, 10), ("b", "B", "C", 50, 60), ("c", "A", "C", 0, 30), ("d", "C", "D", 100, 110))
        self.assertEqual(legs(net_of(flights), "A", 0), (1, 2, 1, 2))

    def test_one_entry_changed(self):
        for net, station, time in ((NET, "A", 0), (NET, "B", 0), (random_net(3), "A", 0), (random_net(4), "B", 90)):
            told = legs(net, station, time)
            self.assertIsNone(accept_legs(net, station, time, told))
            for place, value in enumerate(told):
                for other in (None, 0, -1, 1, 2, 3, 4, 5, 10 ** 40):
                    if other != value:
                        wrong = told[:place] + (other,) + told[place + 1:]
                        self.wrong_paper("entry", accept_legs, net, station, time, wrong)

    def test_other_forms(self):
        told = legs(NET, "A", 0)
        for value in (*VALUES, told[:-1], told + (None,), list(told), told[:-1] + ("1",), told[:-1] + ((),),
                      (True,) + told[1:], told[:-1] + (False,), (1.0,) + told[1:]):
            self.wrong_paper("form", accept_legs, NET, "A", 0, value)
        for value in damaged(told):
            with self.assertRaises(InterlineError):
                accept_legs(NET, "A", 0, value)
        # The form goes first, wherever an entry is wrong.
        self.wrong_paper("form", accept_legs, NET, "A", 0, (9,) + told[1:-1] + ("x",))

    def test_no_flights(self):
        net = ((("A", 0, 0),), (), ("Y",), (), (), ())
        self.assertEqual((legs(net, "A", 5), reach(net, "A", 5)), ((), (5,)))
        self.assertIsNone(accept_legs(net, "A", 5, ()))


class ArgumentsTest(Case):

    def test_wrong_arguments_of_journeys_in_their_order(self):
        good = ("A", "C", 0, 500, 3)
        wrong = (("start", (*VALUES[:10], "Q", ["A"], ("A",))), ("end", (*VALUES[:10], "Q", ["C"])),
                 ("earliest", (None, True, False, -1, 20161, "0", (), 10 ** 40)),
                 ("latest", (None, True, False, -1, 20161, "0", ())),
                 ("stops", (None, True, False, -1, 4, "0", (), 10 ** 40)))
        for function in (journeys, front):
            self.asks_the_net_first(function, *good)
            self.asks_the_net_first(function, None, None, None, None, None)
            for place, (reason, values) in enumerate(wrong):
                for value in values:
                    later = tuple(rest[0] for _, rest in wrong[place + 1:])
                    self.wrong_argument(reason, function, NET, *good[:place], value, *good[place + 1:])
                    self.wrong_argument(reason, function, NET, *good[:place], value, *later)
            self.wrong_argument("end", function, NET, "A", "A", None, None, None)
            self.wrong_argument("start", function, NET, "Q", "Q", 0, 0, 0)
            for edge in (0, 20160):
                function(NET, "A", "C", edge, edge, 0)
            self.survives(lambda *rest: function(NET, *rest), good, InterlineError)

    def test_wrong_arguments_of_legs_in_their_order(self):
        for function, rest in ((legs, ()), (reach, ()), (accept_legs, (None,))):
            self.asks_the_net_first(function, None, None, *rest)
            for station in (*VALUES, "Q", ["A"]):
                if station != "A":
                    self.wrong_argument("station", function, NET, station, None, *rest)
            for time in (None, True, False, -1, 20161, "0", (), 10 ** 40):
                self.wrong_argument("time", function, NET, "A", time, *rest)
        for time in (0, 20160):
            self.assertEqual(len(legs(NET, "A", time)), 5)

    def test_nets_that_check_refuses(self):
        net = with_value(NET, 0, 0, 2, -1)
        for function, rest in ((journeys, (None,) * 5), (front, (None,) * 5), (legs, (1, 1)), (reach, (1, 1)),
                               (accept_legs, (1, 1, 1))):
            with self.assertRaises(InterlineError) as caught:
                function(net, *rest)
            self.assertEqual((caught.exception.path, caught.exception.reason), ((0, 0), "range"))


if __name__ == "__main__":
    unittest.main()
