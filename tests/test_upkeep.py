"""Points 110 to 112: what tails have flown since they were looked after."""

import random
import unittest

from interline.courses import actual, courses
from interline.errors import InterlineError, TooMany
from interline.upkeep import upkeep, worn
from tests.samples import NET, Case, net_of, random_net
from tests.test_book import NET1, WRONG_NUMBERS, WRONG_THREATS
from tests.test_courses import line, random_course, threats_of

# One tail from A to B, to A, to B, to C: it stands 40 minutes at B, 60 at A, and 100 at B.
FLIGHTS = [("f", "A", "B", 0, 50), ("g", "B", "A", 90, 140), ("h", "A", "B", 200, 240), ("i", "B", "C", 340, 400)]
PLANE = net_of(FLIGHTS)
NONE = ((0, 0),)
RULES = (("B",), 100, 300, 9)
WRONG_RULES = (
    None, 5, "a", True, (), (("A",), 1, 1), (("A",), 1, 1, 1, 1), [("A",), 1, 1, 1], (["A"], 1, 1, 1), ("A", 1, 1, 1),
    (("X",), 1, 1, 1), (("A", "A"), 1, 1, 1), ((5,), 1, 1, 1), ((None,), 1, 1, 1), (None, 1, 1, 1), (("A",), 0, 1, 1),
    (("A",), 1, 0, 1), (("A",), 1, 1, 0), (("A",), 20161, 1, 1), (("A",), 1, 20161, 1), (("A",), 1, 1, 20161),
    (("A",), True, 1, 1), (("A",), 1, None, 1), (("A",), 1, 1, "1"), ((("A",),), 1, 1, 1),
)
WRONG_USED = (
    None, 5, "a", True, (), ((0, 0),), ((0, 0),) * 3, [(0, 0), (0, 0)], ((0, 0), [0, 0]), ((0, 0), (0,)),
    ((0, 0), (0, 0, 0)), ((0, 0), (-1, 0)), ((0, 0), (0, -1)), ((0, 0), (20161, 0)), ((0, 0), (0, 20161)),
    ((True, 0), (0, 0)), ((0, False), (0, 0)), ((0, 0), None), ((0, 0), (0, "0")), (0, 0),
)


def told_worn(net, rules, used, course):
    """What points 110 and 111 tell, word for word."""
    bases, span, _, _ = rules
    told = dict(zip([row[0] for row in net[3]], actual(net, course)))
    ends = {row[0]: row[2] for row in net[3]}
    found = []
    for (_, _, row), (minutes, flights) in zip(net[4], used):
        mine, before = [], None
        for name in row:
            if not told[name]:
                continue
            if before and ends[before] in bases and told[name][0] - told[before][1] >= span:
                minutes = flights = 0
            minutes, flights = minutes + told[name][1] - told[name][0], flights + 1
            mine.append((name, minutes, flights))
            before = name
        found.append(tuple(mine))
    return tuple(found)


def told_upkeep(net, rules, used, threats, most):
    _, _, minutes, flights = rules
    left = [(minutes, flights)]
    for course in courses(net, threats, most):
        for (tail, _, _), row in zip(net[4], told_worn(net, rules, used, course)):
            for name, mine, many in row:
                if mine > minutes or many > flights:
                    return ("missed", course, tail, name)
                left.append((minutes - mine, flights - many))
    return ("kept", min(row[0] for row in left), min(row[1] for row in left))


class WornTest(Case):

    def test_stands_of_the_span_and_one_less(self):
        self.assertEqual(worn(PLANE, RULES, NONE, ()), ((("f", 50, 1), ("g", 100, 2), ("h", 140, 3), ("i", 60, 1)),))
        self.assertEqual(worn(PLANE, (("B",), 101, 1, 1), NONE, ())[0][3], ("i", 200, 4))
        self.assertEqual(worn(PLANE, (("B",), 40, 1, 1), NONE, ())[0], (("f", 50, 1), ("g", 50, 1), ("h", 90, 2), ("i", 60, 1)))
        self.assertEqual(worn(PLANE, (("B",), 41, 1, 1), NONE, ())[0][1], ("g", 100, 2))
        self.assertEqual(worn(PLANE, (("B",), 20160, 20160, 20160), NONE, ())[0][3], ("i", 200, 4))

    def test_bases(self):
        self.assertEqual(worn(PLANE, ((), 1, 1, 1), NONE, ())[0][3], ("i", 200, 4))
        self.assertEqual(worn(PLANE, (("C",), 1, 1, 1), NONE, ())[0][3], ("i", 200, 4))
        self.assertEqual(worn(PLANE, (("A",), 60, 1, 1), NONE, ())[0][2:], (("h", 40, 1), ("i", 100, 2)))
        self.assertEqual(worn(PLANE, (("A", "B"), 1, 1, 1), NONE, ())[0],
                         (("f", 50, 1), ("g", 50, 1), ("h", 40, 1), ("i", 60, 1)))

    def test_what_is_used_at_first(self):
        # Nothing is looked after ahead of the first flight.
        self.assertEqual(worn(PLANE, (("A",), 1, 1, 1), ((500, 7),), ())[0][:2], (("f", 550, 8), ("g", 600, 9)))
        self.assertEqual(worn(PLANE, (("A",), 1, 1, 1), ((500, 7),), ())[0][2], ("h", 40, 1))
        self.assertEqual(worn(NET, (("B",), 40, 1, 1), ((20160, 20160), (3, 4)), ()),
                         ((("F", 20220, 20161), ("G", 100, 1), ("J", 300, 2)), (("H", 83, 5), ("I", 173, 6))))

    def test_cancelled_flights_between_two(self):
        # Without g and h the tail stands at B from 50 to 340.
        course = (("cancel", "g"), ("cancel", "h"))
        self.assertEqual(worn(PLANE, (("B",), 290, 1, 1), NONE, course), ((("f", 50, 1), ("i", 60, 1)),))
        self.assertEqual(worn(PLANE, (("B",), 291, 1, 1), NONE, course), ((("f", 50, 1), ("i", 110, 2)),))
        # h falls with g: the tail does not stand where it starts.
        self.assertEqual(worn(PLANE, (("B",), 290, 1, 1), NONE, course[:1]), ((("f", 50, 1), ("i", 60, 1)),))
        self.assertEqual(worn(PLANE, RULES, NONE, (("cancel", "f"),)), ((("h", 40, 1), ("i", 60, 1)),))
        self.assertEqual(worn(PLANE, (("A",), 1, 1, 1), ((5, 1),), (("cancel", "f"),)), ((("h", 45, 2), ("i", 105, 3)),))
        self.assertEqual(worn(NET, (("A",), 1, 1, 1), ((5, 1),) * 2, (("cancel", "F"), ("cancel", "H"))), ((), ()))

    def test_late_flights(self):
        self.assertEqual(worn(PLANE, RULES, NONE, (("late", "h", 1),))[0][3], ("i", 200, 4))
        self.assertEqual(worn(PLANE, (("B",), 41, 1, 1), NONE, (("late", "g", 1),))[0][1], ("g", 50, 1))

    def test_against_the_words(self):
        resets = 0
        for seed in range(150):
            chance = random.Random(seed)
            net = random_net(seed, tails=4, longest=6)
            bases = tuple(chance.sample([row[0] for row in net[0]], chance.randint(0, 3)))
            rules = (bases, chance.choice((1, 20, 30, 60)), chance.randint(1, 300), chance.randint(1, 6))
            used = tuple((chance.randint(0, 50), chance.randint(0, 2)) for _ in net[4])
            course = random_course(seed, net)
            told = told_worn(net, rules, used, course)
            self.assertEqual(worn(net, rules, used, course), told)
            resets += sum(row[2] == 1 for rows in told for row in rows[1:])
        self.assertGreater(resets, 60)


class UpkeepTest(Case):

    def test_numbers_at_the_rules(self):
        self.assertEqual(upkeep(PLANE, (("B",), 100, 140, 3), NONE, (), 0), ("kept", 0, 0))
        self.assertEqual(upkeep(PLANE, (("B",), 100, 150, 5), NONE, (), 0), ("kept", 10, 2))
        self.assertEqual(upkeep(PLANE, (("B",), 100, 139, 3), NONE, (), 0), ("missed", (), "N0", "h"))
        self.assertEqual(upkeep(PLANE, (("B",), 100, 140, 2), NONE, (), 0), ("missed", (), "N0", "h"))
        self.assertEqual(upkeep(PLANE, (("B",), 100, 20160, 20160), ((20020, 0),), (), 0), ("kept", 0, 20157))
        self.assertEqual(upkeep(PLANE, (("B",), 40, 20160, 20160), ((20111, 0),), (), 0), ("missed", (), "N0", "f"))

    def test_days_on_which_nothing_is_flown(self):
        empty = ((), (), ("Y",), (), (), ())
        self.assertEqual(upkeep(empty, ((), 1, 70, 8), (), (), 3), ("kept", 70, 8))
        idle = (PLANE[0], PLANE[1], PLANE[2], (), (("N0", "T", ()),), ())
        self.assertEqual(upkeep(idle, (("A",), 1, 70, 8), ((900, 900),), (), 0), ("kept", 70, 8))
        one = net_of([("f", "A", "B", 0, 50)])
        self.assertEqual(upkeep(one, (("A",), 1, 70, 8), NONE, (("cancel", "f"),), 1), ("kept", 20, 7))

    def test_the_first_of_several(self):
        threats = (("late", "i", 5), ("late", "h", 1), ("cancel", "f"))
        # Where h is late, i departs 99 minutes behind it, and the tail is not looked after.
        self.assertEqual(upkeep(PLANE, (("B",), 100, 199, 9), NONE, threats, 1), ("missed", (("late", "h", 1),), "N0", "i"))
        self.assertEqual(upkeep(PLANE, (("B",), 100, 199, 9), NONE, threats, 0), ("kept", 59, 6))
        self.assertEqual(upkeep(PLANE, (("B",), 100, 200, 4), NONE, threats, 1), ("kept", 0, 0))
        self.assertEqual(upkeep(PLANE, (("B",), 100, 199, 3), NONE, threats[1:], 2)[1], (("late", "h", 1),))
        used = ((0, 0), (0, 0))
        self.assertEqual(upkeep(NET, (("A",), 1, 500, 1), used, (), 0), ("missed", (), "N1", "G"))
        self.assertEqual(upkeep(NET, (("B",), 1, 300, 2), used, (), 0), ("kept", 0, 0))
        self.assertEqual(upkeep(NET, (("B",), 1, 300, 2), ((0, 0), (0, 1)), (), 0), ("missed", (), "N2", "I"))

    def test_against_the_words(self):
        seen = {"kept": 0, "missed": 0}
        for seed in range(150):
            chance = random.Random(seed)
            net = random_net(seed, tails=4, longest=5)
            bases = tuple(chance.sample([row[0] for row in net[0]], chance.randint(0, 4)))
            rules = (bases, chance.choice((1, 20, 60)), chance.randint(80, 400), chance.randint(2, 7))
            used = tuple((chance.randint(0, 50), chance.randint(0, 2)) for _ in net[4])
            threats = tuple(dict.fromkeys(random_course(seed, net) + random_course(seed + 900, net)))
            told = told_upkeep(net, rules, used, threats, 2)
            self.assertEqual(upkeep(net, rules, used, threats, 2), told)
            seen[told[0]] += 1
        self.assertGreater(min(seen.values()), 30, seen)

    def test_order_of_the_errors(self):
        for function, rest in ((worn, (None,)), (upkeep, (None, 9))):
            self.asks_the_net_first(function, None, None, *rest)
            for value in WRONG_RULES:
                self.wrong_argument("rules", function, NET, value, None, *rest)
            for value in WRONG_USED:
                self.wrong_argument("used", function, NET, RULES, value, *rest)
        used = ((0, 0), (20160, 20160))
        for value in (None, 5, (None,), (("cancel", "X"),), [("cancel", "F")], (("cancel", "F"),) * 2, (("late", "F", 0),)):
            self.wrong_argument("course", worn, NET, RULES, used, value)
        for value in WRONG_THREATS:
            self.wrong_argument("threats", upkeep, NET1, ((), 1, 1, 1), ((0, 0),) * len(NET1[4]), value, 9)
        for value in WRONG_NUMBERS:
            self.wrong_argument("events", upkeep, NET, RULES, used, (), value)
        threats = threats_of((2, 2, 2, 2, 1, 1, 1, 1))
        self.refused(TooMany, ("courses",), upkeep, line(8), ((), 1, 1, 1), NONE, threats, 3)
        self.survives(worn, (NET, RULES, used, (("cancel", "F"),)), InterlineError)
        self.survives(upkeep, (NET, RULES, used, (("cancel", "F"),), 1), InterlineError)


if __name__ == "__main__":
    unittest.main()
