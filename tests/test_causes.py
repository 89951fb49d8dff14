"""Points 120 to 122: which event makes flights late or cancelled."""

import random
import unittest

from interline.causes import blame, causes
from interline.courses import actual
from interline.errors import InterlineError
from tests.samples import NET, VALUES, Case, net_of, random_net, with_part
from tests.test_courses import line, random_course


def told_causes(net, course):
    """What points 120 and 121 tell, with one entry for each late minute."""
    told = dict(zip([row[0] for row in net[3]], actual(net, course)))
    flights = {row[0]: row for row in net[3]}
    turns = {row[0]: row[2] for row in net[1]}
    found = {}
    for _, kind, row in net[4]:
        minutes = []
        stands = ready = gap = None
        for name in row:
            mine = [event for event in course if event[1] == name]
            if told[name] is None:
                if stands in (None, flights[name][1]):
                    gap = mine[0]
                    stands = flights[name][1]
                found[name] = ("cancelled", gap)
                continue
            depart = flights[name][3]
            behind = max(0, ready - depart) if ready is not None else 0
            own = sum(event[2] for event in mine if event[0] == "late")
            minutes = minutes[len(minutes) - behind:]
            minutes += mine * (max(own, behind) - behind)
            pairs = []
            for event in minutes:
                if pairs and pairs[-1][0] == event:
                    pairs[-1] = (event, pairs[-1][1] + 1)
                else:
                    pairs.append((event, 1))
            found[name] = ("late", tuple(pairs))
            stands, ready = flights[name][2], told[name][1] + turns[kind]
    return tuple(found[row[0]] for row in net[3])


class CausesTest(Case):

    def test_no_events(self):
        self.assertEqual(causes(NET, ()), (("late", ()),) * 5)
        self.assertEqual(blame(NET, ()), ())
        self.assertEqual(causes(NET, (("smaller", "F", "U"),)), (("late", ()),) * 5)
        self.assertEqual(blame(NET, (("smaller", "F", "U"),)), ((0, 0),))
        self.assertEqual(causes(((), (), ("Y",), (), (), ()), ()), ())

    def test_late_flights(self):
        # The tail makes up 20 minutes between F and G, and 80 between G and J.
        event = ("late", "F", 120)
        self.assertEqual(causes(NET, (event,)), (
            ("late", ((event, 120),)), ("late", ((event, 100),)), ("late", ()), ("late", ()), ("late", ((event, 20),))))
        self.assertEqual(blame(NET, (event,)), ((240, 0),))
        event = ("late", "F", 20)
        self.assertEqual(causes(NET, (event,))[:2], (("late", ((event, 20),)), ("late", ())))

    def test_minutes_of_several_events_of_which_the_first_are_left_out(self):
        one, two, three = ("late", "F", 50), ("late", "G", 100), ("late", "J", 30)
        # G departs 100 late: 30 minutes behind F's, 70 by its own; of these, 20 are left for J.
        self.assertEqual(causes(NET, (one, two))[1], ("late", ((one, 30), (two, 70))))
        self.assertEqual(causes(NET, (one, two))[4], ("late", ((two, 20),)))
        self.assertEqual(causes(NET, (three, two, one))[4], ("late", ((two, 20), (three, 10))))
        self.assertEqual(blame(NET, (three, two, one)), ((10, 0), (90, 0), (80, 0)))
        # An own event that is not longer than what comes from before is no cause.
        self.assertEqual(causes(NET, (one, ("late", "G", 30)))[1], ("late", ((one, 30),)))
        self.assertEqual(causes(NET, (one, ("late", "G", 31)))[1], ("late", ((one, 30), (("late", "G", 31), 1))))
        self.assertEqual(blame(NET, (one, ("late", "G", 30))), ((80, 0), (0, 0)))

    def test_a_pair_that_is_left_out_in_part(self):
        flights = [("f0", "A", "B", 0, 100), ("f1", "B", "A", 110, 200), ("f2", "A", "B", 205, 300)]
        net = net_of(flights)
        one, two = ("late", "f0", 30), ("late", "f1", 26)
        self.assertEqual(causes(net, (one, two)), (
            ("late", ((one, 30),)), ("late", ((one, 20), (two, 6))), ("late", ((one, 15), (two, 6)))))
        self.assertEqual(blame(net, (two, one)), ((12, 0), (65, 0)))

    def test_cancelled_flights(self):
        one, two = ("cancel", "f1"), ("cancel", "f2")
        net = line(6)
        self.assertEqual(causes(net, (one,)), (("late", ()), ("cancelled", one), ("cancelled", one), *(("late", ()),) * 3))
        # f2 could not be flown anyway, so its event is no cause.
        self.assertEqual(causes(net, (two, one))[1:3], (("cancelled", one), ("cancelled", one)))
        self.assertEqual(blame(net, (two, one)), ((0, 0), (0, 2)))
        # Behind f3 the tail stands again where it should, and another event counts.
        three = ("cancel", "f4")
        self.assertEqual(causes(net, (one, two, three))[3:], (("late", ()), ("cancelled", three), ("cancelled", three)))
        self.assertEqual(blame(net, (one, two, three)), ((0, 2), (0, 0), (0, 2)))

    def test_the_first_flight_of_a_tail(self):
        net = line(3)
        one, two = ("cancel", "f0"), ("cancel", "f2")
        self.assertEqual(causes(net, (one,)), (("cancelled", one), ("cancelled", one), ("late", ())))
        self.assertEqual(causes(net, (one, two)), (("cancelled", one), ("cancelled", one), ("cancelled", two)))
        self.assertEqual(blame(net, (one, two)), ((0, 2), (0, 1)))

    def test_several_gaps_in_a_row(self):
        # Twice cancelled at one station: each event that finds the tail there is a cause of its own.
        flights = [("a", "A", "B", 0, 50), ("b", "B", "C", 100, 150), ("c", "C", "B", 200, 250), ("d", "B", "A", 300, 350),
                   ("e", "A", "C", 400, 450)]
        net = net_of(flights)
        one, two = ("cancel", "b"), ("cancel", "d")
        self.assertEqual(causes(net, (one, two)), (
            ("late", ()), ("cancelled", one), ("cancelled", one), ("cancelled", two), ("cancelled", two)))
        self.assertEqual(blame(net, (two, one, ("cancel", "c"))), ((0, 2), (0, 2), (0, 0)))

    def test_delays_go_on_behind_a_gap(self):
        one, two = ("late", "f0", 400), ("cancel", "f1")
        net = line(5)
        self.assertEqual(causes(net, (one, two)), (
            ("late", ((one, 400),)), ("cancelled", two), ("cancelled", two), ("late", ((one, 150),)), ("late", ((one, 100),))))
        self.assertEqual(blame(net, (two, one)), ((0, 2), (650, 0)))

    def test_against_the_words(self):
        seen = set()
        for seed in range(120):
            net = random_net(seed, tails=3, longest=8, stations=3)
            for turn in range(4):
                course = random_course(1000 * seed + turn, net)
                told = causes(net, course)
                self.assertEqual(told, told_causes(net, course))
                self.sums_up(net, course, told)
                seen |= {(word, len(parts)) for word, parts in told if word == "late"}
                seen |= {word for word, _ in told}
        self.assertLessEqual({"late", "cancelled", ("late", 0), ("late", 1), ("late", 2)}, seen)

    def sums_up(self, net, course, told):
        """The causes of a flight make its lateness, and the blame is for all minutes and all cancelled flights."""
        late = cancelled = 0
        for row, flown, (word, parts) in zip(net[3], actual(net, course), told):
            self.assertEqual(word == "cancelled", flown is None)
            if flown is None:
                cancelled += 1
                self.assertIn(parts, course)
                continue
            late += flown[0] - row[3]
            self.assertEqual(sum(minutes for _, minutes in parts), flown[0] - row[3])
            self.assertTrue(all(0 < minutes <= event[2] for event, minutes in parts))
        sums = blame(net, course)
        self.assertEqual(len(sums), len(course))
        self.assertEqual((sum(one for one, _ in sums), sum(two for _, two in sums)), (late, cancelled))
        for event, pair in zip(course, sums):
            self.assertEqual(pair[0], sum(minutes for word, parts in told if word == "late"
                                          for cause, minutes in parts if cause == event))

    def test_empty_tails(self):
        net = with_part(NET, 4, (("N0", "T", ()), *NET[4]))
        self.assertEqual(causes(net, (("late", "F", 9),)), causes(NET, (("late", "F", 9),)))

    def test_errors(self):
        for function in (causes, blame):
            self.asks_the_net_first(function, None)
            for value in (*VALUES, [], (("cancel", "X"),), (("late", "F", True),), (("cancel", "F"),) * 2):
                if value != ():
                    self.wrong_argument("course", function, NET, value)
            self.wrong_argument("course", function, NET, [])
            self.survives(function, (NET, (("cancel", "F"),)), InterlineError)


if __name__ == "__main__":
    unittest.main()
