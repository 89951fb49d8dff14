"""Points 98 to 101: stands, gates that are enough, and plans for them."""

import random
import unittest

from interline.courses import actual, courses
from interline.errors import InterlineError, PaperError, TooMany
from interline.gates import accept_gate_plan, gate_plan, least_gates, stands
from tests.samples import NET, VALUES, Case, damaged, net_of, random_net, with_part
from tests.test_book import NET1 as BOOK_NET
from tests.test_book import WRONG_NUMBERS, WRONG_THREATS
from tests.test_courses import line, random_course, threats_of


def told_stands(net, course, lead):
    """What point 98 tells, word for word."""
    told = dict(zip([row[0] for row in net[3]], actual(net, course)))
    flights = {row[0]: row for row in net[3]}
    found = []
    for tail, _, row in net[4]:
        row = [name for name in row if told[name]]
        for place, name in enumerate(row):
            begin = told[name][0] - lead if place == 0 else told[row[place - 1]][1]
            found.append((flights[name][1], begin, told[name][0], tail))
        if row:
            found.append((flights[row[-1]][2], told[row[-1]][1], told[row[-1]][1] + lead, tail))
    return tuple(found)


def held_rows(net, course, lead, station):
    return sorted(row[1:] for row in told_stands(net, course, lead) if row[0] == station and row[1] < row[2])


def held_at(rows, time):
    return sum(begin <= time < end for begin, end, _ in rows)


class StandsTest(Case):

    def test_stands(self):
        self.assertEqual(stands(NET, (), 30), (
            ("A", 70, 100, "N1"), ("B", 160, 200, "N1"), ("C", 300, 400, "N1"), ("A", 600, 630, "N1"),
            ("A", 70, 100, "N2"), ("D", 180, 200, "N2"), ("C", 290, 320, "N2")))
        self.assertEqual(stands(NET, (("late", "F", 50),), 1)[:2], (("A", 149, 150, "N1"), ("B", 210, 230, "N1")))

    def test_tails_that_fly_nothing(self):
        self.assertEqual(stands(NET, (("cancel", "F"), ("cancel", "H")), 30), ())
        self.assertEqual(stands(NET, (("cancel", "F"),), 30)[0][3], "N2")
        net = with_part(NET, 4, (("N0", "T", ()), *NET[4]))
        self.assertEqual(stands(net, (), 30), stands(NET, (), 30))
        self.assertEqual(stands(((), (), ("Y",), (), (), ()), (), 30), ())

    def test_cancelled_flights_in_between(self):
        net = line(4)
        self.assertEqual(stands(net, (("cancel", "f1"),), 10), (
            ("A", -10, 0, "N0"), ("B", 50, 300, "N0"), ("A", 350, 360, "N0")))
        self.assertEqual(stands(net, (("cancel", "f0"),), 10), (
            ("A", 190, 200, "N0"), ("B", 250, 300, "N0"), ("A", 350, 360, "N0")))
        self.assertEqual(stands(net, (("cancel", "f3"),), 1440)[-1], ("B", 250, 1690, "N0"))

    def test_stands_that_end_when_they_begin(self):
        net = net_of([("F", "A", "B", 0, 50), ("G", "B", "A", 50, 90)])
        self.assertEqual(stands(net, (), 5)[1], ("B", 50, 50, "N0"))
        self.assertEqual(gate_plan(net, "B", 5, ()), ())
        self.assertEqual(least_gates(net, "B", 5, (), 0), (0, (), None))

    def test_against_the_words(self):
        for seed in range(80):
            net = random_net(seed, tails=4, longest=6)
            course = random_course(seed, net)
            for lead in (1, 30, 1440):
                self.assertEqual(stands(net, course, lead), told_stands(net, course, lead))

    def test_errors(self):
        self.asks_the_net_first(stands, None, None)
        for value in VALUES:
            if value != ():
                self.wrong_argument("course", stands, NET, value, None)
            if type(value) is not int or not 1 <= value <= 1440:
                self.wrong_argument("lead", stands, NET, (), value)
        for lead in (0, -1, 1441, True, None, "5"):
            self.wrong_argument("lead", stands, NET, (), lead)
        self.survives(stands, (NET, (("cancel", "F"),), 5), InterlineError)


class LeastGatesTest(Case):

    def test_numbers(self):
        self.assertEqual(least_gates(NET, "A", 30, (), 0), (2, (), 70))
        self.assertEqual(least_gates(NET, "C", 30, (), 0), (2, (), 300))
        self.assertEqual(least_gates(NET, "B", 30, (), 0), (1, (), 160))
        self.assertEqual(least_gates(NET, "C", 10, (), 0), (1, (), 290))
        self.assertEqual(least_gates(NET, "C", 11, (), 0), (2, (), 300))

    def test_the_end_of_a_stand(self):
        # I arrives at 290 and holds its gate up to, but not at, the arrival of G.
        self.assertEqual(least_gates(NET, "C", 10, (("late", "G", 1), ("late", "I", 1)), 1), (2, (("late", "I", 1),), 300))
        self.assertEqual(least_gates(NET, "C", 10, (("late", "G", 1),), 1), (1, (), 290))

    def test_the_first_course_and_the_first_time(self):
        threats = (("cancel", "F"), ("late", "I", 5), ("late", "I", 6))
        self.assertEqual(least_gates(NET, "C", 10, threats, 1), (2, threats[1:2], 300))
        self.assertEqual(least_gates(NET, "C", 10, threats, 0), (1, (), 290))
        self.assertEqual(least_gates(NET, "D", 10, threats, 1), (1, (), 180))
        # The stand is longer, but it holds one gate all the same; with no events it does so first.
        self.assertEqual(least_gates(NET, "D", 10, (("late", "I", 50),), 1), (1, (), 180))

    def test_where_no_gate_is_held(self):
        net = with_part(NET, 0, NET[0] + (("E", 0, 0),))
        self.assertEqual(least_gates(net, "E", 30, (("cancel", "F"),), 1), (0, (), None))
        net = net_of([("F", "A", "B", 0, 50), ("G", "B", "A", 50, 90)])
        self.assertEqual(least_gates(net, "B", 30, (("cancel", "G"),), 1), (1, (("cancel", "G"),), 50))

    def test_against_all_minutes(self):
        seen = set()
        for seed in range(60):
            net = random_net(seed, tails=6, longest=4, stations=3, span=20)
            threats = tuple(dict.fromkeys(random_course(seed, net) + random_course(seed + 900, net)))
            lead = 1 + seed
            for station in "ABC":
                best = (0, (), None)
                for course in courses(net, threats, 2):
                    rows = held_rows(net, course, lead, station)
                    for time in sorted({time + more for row in rows for time in row[:2] for more in (-1, 0, 1)}):
                        if held_at(rows, time) > best[0]:
                            best = (held_at(rows, time), course, time)
                self.assertEqual(least_gates(net, station, lead, threats, 2), best)
                seen.add(best[0])
        self.assertLessEqual({1, 2, 3, 4}, seen)

    def test_errors(self):
        self.asks_the_net_first(least_gates, None, None, None, None)
        for value in (*VALUES, "T", "N1"):
            if value != "A":
                self.wrong_argument("station", least_gates, NET, value, None, None, None)
        for lead in (0, -1, 1441, True, None, "5"):
            self.wrong_argument("lead", least_gates, NET, "A", lead, None, None)
        for value in WRONG_THREATS:
            self.wrong_argument("threats", least_gates, BOOK_NET, "A", 5, value, 9)
        for value in WRONG_NUMBERS:
            self.wrong_argument("events", least_gates, NET, "A", 5, (), value)
        self.refused(TooMany, ("courses",), least_gates, line(8), "A", 5, threats_of((2, 2, 2, 2, 1, 1, 1, 1)), 3)
        self.survives(least_gates, (NET, "A", 5, (("cancel", "F"),), 1), InterlineError)


class GatePlanTest(Case):

    def test_plans(self):
        self.assertEqual(gate_plan(NET, "A", 30, ()), ((0, 70, 100, "N1"), (1, 70, 100, "N2"), (0, 600, 630, "N1")))
        self.assertEqual(gate_plan(NET, "C", 30, ()), ((0, 290, 320, "N2"), (1, 300, 400, "N1")))
        self.assertEqual(gate_plan(NET, "C", 10, ()), ((0, 290, 300, "N2"), (0, 300, 400, "N1")))
        self.assertEqual(gate_plan(NET, "B", 30, (("cancel", "F"),)), ())

    def test_equal_begins(self):
        # With one begin the end decides, and then the name of the tail.
        flights = [("a", "A", "B", 100, 150), ("b", "A", "B", 120, 150), ("c", "B", "A", 150, 200), ("d", "A", "B", 120, 150)]
        rows = (("Z", "T", ("a",)), ("M", "T", ("b",)), ("N", "T", ("d",)), ("K", "T", ("c",)))
        net = with_part(net_of(flights), 4, rows)
        self.assertEqual(gate_plan(net, "A", 20, ()), (
            (0, 80, 100, "Z"), (0, 100, 120, "M"), (1, 100, 120, "N"), (0, 200, 220, "K")))
        self.assertEqual(gate_plan(net, "B", 20, ()), (
            (0, 130, 150, "K"), (0, 150, 170, "M"), (1, 150, 170, "N"), (2, 150, 170, "Z")))
        net = with_part(net, 4, (("Z", "T", ("a", "c")), *rows[1:3]))
        self.assertEqual(gate_plan(net, "B", 20, ()), ((0, 150, 170, "M"), (1, 150, 170, "N")))

    def test_the_least_free_gate(self):
        flights = [("a", "A", "B", 100, 400), ("b", "A", "B", 110, 400), ("c", "A", "B", 120, 400), ("d", "A", "B", 160, 400),
                   ("e", "A", "B", 165, 400)]
        net = net_of(flights)
        self.assertEqual([row[0] for row in gate_plan(net, "A", 50, ())],
                         [row[0] for row in self.told_plan(net, "A", 50, ())])
        self.assertEqual([row[:3] for row in gate_plan(net, "A", 50, ())],
                         [(0, 50, 100), (1, 60, 110), (2, 70, 120), (0, 110, 160), (1, 115, 165)])

    def told_plan(self, net, station, lead, course):
        plan = []
        for begin, end, tail in held_rows(net, course, lead, station):
            gate = 0
            while any(row[0] == gate and row[1] <= begin < row[2] for row in plan):
                gate += 1
            plan.append((gate, begin, end, tail))
        return tuple(plan)

    def test_against_the_words(self):
        for seed in range(80):
            chance = random.Random(seed)
            net = random_net(seed, tails=6, longest=4, stations=3, span=20)
            course = random_course(seed, net)
            lead = chance.choice((1, 20, 60, 200))
            for station in "ABC":
                plan = gate_plan(net, station, lead, course)
                self.assertEqual(plan, self.told_plan(net, station, lead, course))
                rows = held_rows(net, course, lead, station)
                many = max([held_at(rows, row[0]) for row in rows], default=0)
                self.assertEqual(len({row[0] for row in plan}), many)
                self.assertIsNone(accept_gate_plan(net, station, lead, course, many, plan))
                if many:
                    self.wrong_paper("gate", accept_gate_plan, net, station, lead, course, many - 1, plan)

    def test_accept_other_gates(self):
        plan = gate_plan(NET, "A", 30, ())
        for gates in ((5, 7, 5), (1, 0, 1), (99, 0, 50)):
            told = tuple((gate, *row[1:]) for gate, row in zip(gates, plan))
            self.assertIsNone(accept_gate_plan(NET, "A", 30, (), 100, told))
        told = ((0, 290, 300, "N2"), (0, 300, 400, "N1"))
        self.assertIsNone(accept_gate_plan(NET, "C", 10, (), 1, told))
        self.assertIsNone(accept_gate_plan(NET, "B", 30, (("cancel", "F"),), 0, ()))

    def rejects(self, reason, gates, *values):
        for value in values:
            self.wrong_paper(reason, accept_gate_plan, NET, "A", 30, (), gates, value)

    def test_errors_of_accept_gate_plan(self):
        plan = gate_plan(NET, "A", 30, ())
        one, two, three = plan
        self.assertIsNone(accept_gate_plan(NET, "A", 30, (), 2, plan))
        self.rejects("form", 2, None, 5, (), plan[:2], plan + plan[:1], list(plan), "abc")
        self.rejects("form", 2, (None, two, three), (one[:3], two, three), (one + (0,), two, three), (list(one), two, three),
                     ((None, *one[1:]), two, three), ((False, *one[1:]), two, three), (("0", *one[1:]), two, three))
        self.rejects("stand", 2, (two, one, three), ((0, 71, 100, "N1"), two, three), ((0, 70, 101, "N1"), two, three),
                     ((0, 70, 100, "N2"), two, three), ((0, 70, 100, None), two, three), ((0, None, 100, "N1"), two, three),
                     (one, (1, 70, 100, "N3"), three), (one, two, (0, 600, 630, "N2")))
        self.rejects("gate", 2, ((2, *one[1:]), two, three), ((-1, *one[1:]), two, three), (one, two, (9, *three[1:])))
        self.rejects("gate", 1, plan)
        self.rejects("gate", 0, plan)
        self.rejects("shared", 2, (one, (0, *two[1:]), three), ((1, *one[1:]), two, three))
        # Entry by entry, and what is shared at last.
        self.rejects("gate", 2, ((7, *one[1:]), None, three))
        self.rejects("stand", 2, ((7, 0, 0, "N1"), None, three))
        self.rejects("form", 2, (one, (0, *two[1:]), None))
        self.rejects("gate", 2, (one, (0, *two[1:]), (2, *three[1:])))

    def test_stands_are_not_booleans(self):
        net = net_of([("F", "A", "B", 1, 50)])
        self.assertIsNone(accept_gate_plan(net, "A", 1, (), 1, ((0, 0, 1, "N0"),)))
        for entry in ((0, False, 1, "N0"), (0, 0, True, "N0")):
            self.wrong_paper("stand", accept_gate_plan, net, "A", 1, (), 1, (entry,))

    def test_errors(self):
        for function, rest in ((gate_plan, ()), (accept_gate_plan, (None, None))):
            self.asks_the_net_first(function, None, None, None, *rest)
            for value in (*VALUES, "T", "N1"):
                if value != "A":
                    self.wrong_argument("station", function, NET, value, None, None, *rest)
            for lead in (0, -1, 1441, True, None, "5"):
                self.wrong_argument("lead", function, NET, "A", lead, None, *rest)
            for value in VALUES:
                if value != ():
                    self.wrong_argument("course", function, NET, "A", 5, value, *rest)
        for gates in (-1, 101, None, True, False, "1", (), 10 ** 40):
            self.wrong_argument("gates", accept_gate_plan, NET, "A", 5, (), gates, None)
        plan = gate_plan(NET, "A", 30, ())
        self.survives(gate_plan, (NET, "A", 30, (("cancel", "F"),)), InterlineError)
        self.survives(accept_gate_plan, (NET, "A", 30, (), 2, plan), InterlineError)
        for value in [*VALUES, *damaged(plan)]:
            if value == (*plan[:2], (1, *plan[2][1:])):
                continue
            self.assertRaises(PaperError, accept_gate_plan, NET, "A", 30, (), 2, value)


if __name__ == "__main__":
    unittest.main()
