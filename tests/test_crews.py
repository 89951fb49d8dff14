"""Points 90 to 94: links, the fewest duties, and reserves."""

import itertools
import random
import unittest

from interline.courses import actual, courses
from interline.crews import accept_duties, least_duties, links, reserves
from interline.errors import InterlineError, PaperError, TooMany
from tests.samples import NET, VALUES, Case, damaged, net_of, random_net, with_value
from tests.test_book import WRONG_NUMBERS, WRONG_THREATS
from tests.test_book import NET1 as BOOK_NET
from tests.test_courses import line, random_course, threats_of

SITS = (20, 300)
WRONG_SITS = (None, 5, "a", True, (), (5,), (5, 6, 7), [5, 6], (6, 5), (-1, 5), (5, 1441), (True, 5), (0, True), ("5", 6),
              (5, None), (False, False), ((5,), 6), (-2, -1))


def told_links(net, sits):
    """What point 90 tells, word for word."""
    zones = {row[0]: row[1] for row in net[0]}
    found = []
    for one in net[3]:
        for two in net[3]:
            wait = two[3] - one[4]
            if one[2] == two[1] and sits[0] <= wait <= sits[1] and \
                    (one[4] + zones[one[2]]) // 1440 == (two[3] + zones[one[2]]) // 1440:
                found.append((one[0], two[0]))
    return tuple(found)


def fewest_duties(names, pairs):
    """The least number of duties, by trying all sets of links of which no two share a side."""
    for many in range(min(len(names), len(pairs)), 0, -1):
        for row in itertools.combinations(pairs, many):
            if len({one for one, _ in row}) == many == len({two for _, two in row}):
                return len(names) - many
    return len(names)


def some_duties(chance, net, sits):
    """Duties that take links as they come."""
    pairs = list(told_links(net, sits))
    chance.shuffle(pairs)
    after, before = {}, {}
    for one, two in pairs:
        if one not in after and two not in before:
            after[one], before[two] = two, one
    rows = []
    for flight in net[3]:
        if flight[0] not in before:
            row = [flight[0]]
            while row[-1] in after:
                row.append(after[row[-1]])
            rows.append(tuple(row))
    return tuple(rows)


def told_torn(net, sits, duties, course):
    flown = dict(zip([row[0] for row in net[3]], actual(net, course)))
    return tuple((one, two) for row in duties for one, two in zip(row, row[1:])
                 if flown[two] and (not flown[one] or flown[two][0] - flown[one][1] < sits[0]))


class LinksTest(Case):

    def test_links(self):
        self.assertEqual(links(NET, SITS), (("F", "G"), ("G", "J"), ("H", "I"), ("I", "J")))
        self.assertEqual(links(NET, (0, 1440)), (("F", "G"), ("G", "J"), ("H", "I"), ("I", "J")))
        self.assertEqual(links(((), (), ("Y",), (), (), ()), SITS), ())

    def test_both_ends_of_the_sits(self):
        for sits, found in (((40, 40), True), ((41, 50), False), ((0, 39), False), ((0, 40), True), ((40, 1440), True)):
            self.assertEqual(("F", "G") in links(NET, sits), found)
        net = net_of([("F", "A", "B", 0, 50), ("G", "B", "A", 50, 90)])
        self.assertEqual(links(net, (0, 0)), (("F", "G"),))

    def test_local_midnights(self):
        # The local midnight of B is at 1440 - zone.
        for zone in (-90, 0, 60, 840, -720):
            midnight = 1440 - zone
            for arrive, depart, found in ((midnight - 50, midnight - 1, True), (midnight - 50, midnight, False),
                                          (midnight - 1, midnight, False), (midnight, midnight + 40, True)):
                net = net_of([("F", "A", "B", arrive - 60, arrive), ("G", "B", "A", depart, depart + 60)],
                             stations=(("A", 0, 30), ("B", zone, 30)))
                self.assertEqual(links(net, (0, 1440)), (("F", "G"),) if found else ())

    def test_days_before_the_first_one(self):
        # At zone -90 the minutes 0 to 89 are of the day -1.
        for depart, found in ((89, True), (90, False)):
            net = net_of([("F", "A", "B", 0, 20), ("G", "B", "A", depart, 160)], stations=(("A", 0, 0), ("B", -90, 0)))
            self.assertEqual(links(net, (0, 1440)), (("F", "G"),) if found else ())

    def test_order(self):
        flights = [("b", "B", "C", 100, 150), ("z", "A", "B", 0, 50), ("a", "B", "C", 90, 150), ("y", "A", "B", 0, 60)]
        self.assertEqual(links(net_of(flights), SITS), (("z", "b"), ("z", "a"), ("y", "b"), ("y", "a")))

    def test_against_the_words(self):
        many = 0
        for seed in range(100):
            chance = random.Random(seed)
            net = random_net(seed, tails=5, longest=6, stations=3, span=400)
            sits = tuple(sorted((chance.choice((0, 10, 30, 200)), chance.choice((30, 100, 1440)))))
            self.assertEqual(links(net, sits), told_links(net, sits))
            many += len(links(net, sits))
        self.assertGreater(many, 500)

    def test_errors(self):
        for function, rest in ((links, ()), (least_duties, ()), (accept_duties, (None,)), (reserves, (None,) * 3)):
            self.asks_the_net_first(function, None, *rest)
            for value in (*WRONG_SITS, *VALUES):
                if value != (1, 2):
                    self.wrong_argument("sits", function, NET, value, *rest)
            self.survives(function, (NET, SITS, *rest), InterlineError)
        for sits in ((0, 0), (1440, 1440), (0, 1440)):
            links(NET, sits)


class DutiesTest(Case):

    def test_duties(self):
        duties, cover = least_duties(NET, SITS)
        self.assertEqual(len(duties), 2)
        self.assertEqual(sorted(name for row in duties for name in row), list("FGHIJ"))
        self.assertEqual(len(cover), 3)
        self.assertIsNone(accept_duties(NET, SITS, (duties, cover)))
        self.assertEqual(least_duties(((), (), ("Y",), (), (), ()), SITS), ((), ()))
        self.assertEqual(least_duties(NET, (1440, 1440)), (tuple((name,) for name in "FGHIJ"), ()))

    def test_where_links_must_be_taken_back(self):
        # a takes c first; then b, which has c alone, pushes a on to d.
        flights = [("a", "A", "B", 0, 50), ("b", "C", "B", 0, 90), ("c", "B", "D", 120, 170), ("d", "B", "D", 85, 150)]
        net = net_of(flights)
        self.assertEqual(links(net, (30, 80)), (("a", "c"), ("a", "d"), ("b", "c")))
        duties, cover = least_duties(net, (30, 80))
        self.assertEqual(sorted(duties), [("a", "d"), ("b", "c")])
        self.assertIsNone(accept_duties(net, (30, 80), (duties, cover)))

    def test_against_all_duties(self):
        seen = {}
        for seed in range(150):
            chance = random.Random(seed)
            net = random_net(seed, tails=4, longest=4, stations=3, span=100)
            sits = chance.choice(((0, 1440), (0, 60), (20, 120), (60, 200)))
            pairs = told_links(net, sits)
            if len(pairs) > 16:
                continue
            told = least_duties(net, sits)
            names = [row[0] for row in net[3]]
            least = fewest_duties(names, pairs)
            self.assertEqual(len(told[0]), least)
            self.assertEqual(len(told[1]), len(names) - least)
            self.assertEqual(sorted(name for row in told[0] for name in row), sorted(names))
            for row in told[0]:
                self.assertTrue(all(pair in pairs for pair in zip(row, row[1:])))
            self.assertEqual(len(set(told[1])), len(told[1]))
            self.assertTrue(all(("out", one) in told[1] or ("in", two) in told[1] for one, two in pairs))
            self.assertIsNone(accept_duties(net, sits, told))
            seen[len(names) - least] = 1
            words = {word for word, _ in told[1]}
            seen[tuple(words)] = 1
        self.assertGreater(len(seen), 6)

    def test_large_nets(self):
        for seed in range(30):
            net = random_net(seed, tails=9, longest=5, stations=3, span=300)
            if len(net[3]) <= 40:
                self.assertIsNone(accept_duties(net, (0, 1440), least_duties(net, (0, 1440))))

    def rejects(self, reason, *values):
        for value in values:
            self.wrong_paper(reason, accept_duties, NET, SITS, value)

    def test_errors_of_accept_duties(self):
        duties = (("F", "G", "J"), ("H", "I"))
        cover = (("in", "G"), ("in", "J"), ("in", "I"))
        self.assertIsNone(accept_duties(NET, SITS, (duties, cover)))
        self.assertIsNone(accept_duties(NET, SITS, (duties[::-1], (("out", "F"), ("in", "J"), ("out", "H")))))
        self.rejects("form", None, 5, (), (duties,), (duties, cover, 0), [duties, cover], (duties, list(cover)),
                     (duties, None), (None, None), (duties, "in"), (duties, {}))
        self.rejects("duties", (None, cover), ((), cover), (list(duties), cover), (duties[:1], cover),
                     (duties + ((),), cover), (duties + (("F",),), cover), ((*duties[:1], ("I", "H")), cover),
                     ((("F", "G", "J"), ("H",), ("H", "I")), cover), ((["F", "G", "J"], ("H", "I")), cover),
                     (("FGJ", "HI"), cover), ((("F", "J"), ("G",), ("H", "I")), cover), ((5, ("H", "I")), cover),
                     ((("F", "G", "J"), ("H", "I", 5)), cover), ((("F", "G", "J"), ("H", "I"), ("X",)), cover),
                     ((("F", "G", "J", "H", "I"),), None or cover), ((("F", "F", "G", "J"), ("H", "I")), ()))
        self.rejects("cover", (duties, ()), (duties, cover[:2]), (duties, cover + cover[:1]), (duties, (None, *cover)),
                     (duties, (("in", "X"), *cover)), (duties, (("on", "G"), *cover)), (duties, (("in",), *cover)),
                     (duties, (("in", "G", 1), *cover)), (duties, (["in", "G"], *cover[1:])), (duties, ("in", "G")),
                     (duties, (("G", "in"), *cover[1:])), (duties, ((("in",), "G"), *cover)), (duties, (("in", 5), *cover)),
                     (duties, (("out", "G"), ("in", "J"), ("in", "I"))), (duties, (5,) * 3))
        self.rejects("number", (duties, (*cover, ("out", "J"))), ((("F",), ("G", "J"), ("H", "I")), cover),
                     (tuple((name,) for name in "FGHIJ"), cover))
        # The first of two faults is told.
        self.rejects("form", (None, [None]))
        self.rejects("duties", (None, (None,)))
        self.rejects("cover", ((("F",), ("G", "J"), ("H", "I")), cover[:2]))

    def test_any_values(self):
        told = least_duties(NET, SITS)
        for value in [*VALUES, *damaged(told)]:
            self.assertRaises(PaperError, accept_duties, NET, SITS, value)


class ReservesTest(Case):

    DUTIES = (("F", "G", "J"), ("H", "I"))

    def test_torn_pairs(self):
        # F and G are 40 minutes apart by the told times, and the tail that is late takes 20.
        threats = (("late", "F", 21), ("late", "F", 20), ("cancel", "H"), ("cancel", "G"))
        self.assertEqual(reserves(NET, (20, 300), self.DUTIES, threats[1:2], 1), (0, (), ()))
        # G departs when its tail is ready, so no pair of one tail is torn but by longer sits.
        self.assertEqual(reserves(NET, (20, 300), self.DUTIES, threats[:1], 1), (0, (), ()))
        duties = (("F", "G", "J"), ("H",), ("I",))
        self.assertEqual(reserves(NET, (21, 300), duties, threats[:1], 1), (1, threats[:1], (("F", "G"),)))
        self.assertEqual(reserves(NET, (21, 300), duties, threats[1:2], 1), (1, threats[1:2], (("F", "G"),)))
        self.assertEqual(reserves(NET, (21, 300), duties, threats, 0), (0, (), ()))

    def crews(self):
        """Crews change from tails of type T to tails of type U."""
        flights = [("a", "A", "B", 0, 60, "T"), ("b", "B", "C", 100, 160, "U"), ("c", "C", "A", 200, 260, "T"),
                   ("d", "B", "A", 90, 150, "T")]
        return net_of(flights, types=(("T", 9, 0), ("U", 9, 0))), (("a", "b", "c"), ("d",))

    def test_cancelled_and_late_flights(self):
        net, duties = self.crews()
        for course, pairs in (((("cancel", "a"),), (("a", "b"),)), ((("cancel", "b"),), (("b", "c"),)),
                              ((("cancel", "c"),), ()), ((("late", "a", 11),), (("a", "b"),)), ((("late", "a", 10),), ()),
                              ((("cancel", "a"), ("cancel", "b")), (("b", "c"),)), ((("late", "a", 11), ("cancel", "b")),
                              (("b", "c"),))):
            self.assertEqual(actual(net, course)[2] is None, ("cancel", "c") in course)
            told = reserves(net, (30, 1440), duties, course, len(course))
            self.assertEqual(told_torn(net, (30, 1440), duties, course), pairs)
            if len(pairs) == 0:
                self.assertEqual(told, (0, (), ()))
            elif len(course) == 1:
                self.assertEqual(told, (1, course, pairs))

    def test_the_first_of_several_courses(self):
        net, duties = self.crews()
        threats = (("late", "d", 5), ("cancel", "b"), ("cancel", "a"), ("late", "a", 20))
        self.assertEqual(reserves(net, (30, 1440), duties, threats, 1), (1, threats[1:2], (("b", "c"),)))
        self.assertEqual(reserves(net, (30, 1440), duties, threats[2:], 2), (1, threats[2:3], (("a", "b"),)))
        threats = (("late", "d", 5), ("late", "b", 30), ("cancel", "a"))
        self.assertEqual(reserves(net, (30, 1440), duties, threats, 3), (2, (threats[1], threats[2]),
                                                                         (("a", "b"), ("b", "c"))))

    def test_against_the_words(self):
        seen = set()
        for seed in range(80):
            chance = random.Random(seed)
            net = random_net(seed, tails=5, longest=5, stations=3, span=60)
            sits = (chance.choice((0, 20, 40)), 400)
            duties = some_duties(chance, net, sits)
            threats = tuple(dict.fromkeys(random_course(seed, net) + random_course(seed + 900, net)))
            most = chance.randint(0, 3)
            told = [(told_torn(net, sits, duties, course), course) for course in courses(net, threats, most)]
            many = max(len(pairs) for pairs, _ in told)
            pairs, course = next(row for row in told if len(row[0]) == many)
            self.assertEqual(reserves(net, sits, duties, threats, most), (many, course, pairs))
            seen.add(many)
        self.assertLessEqual({0, 1, 2, 3}, seen)

    def test_errors(self):
        for value in (None, 5, (), [], (("F",),), (("F", "G", "J"), ("I", "H")), self.DUTIES + ((),), "FGHIJ",
                      self.DUTIES + (("F",),), (("F", "G", "J"), ("H", "I", "X")), (["F", "G", "J"], ("H", "I")), True):
            self.wrong_argument("duties", reserves, NET, SITS, value, None, 9)
        for value in WRONG_THREATS:
            duties = tuple((row[0],) for row in BOOK_NET[3])
            self.wrong_argument("threats", reserves, BOOK_NET, SITS, duties, value, 9)
        for value in WRONG_NUMBERS:
            self.wrong_argument("events", reserves, NET, SITS, self.DUTIES, (), value)
        duties = tuple((row[0],) for row in line(8)[3])
        self.refused(TooMany, ("courses",), reserves, line(8), SITS, duties, threats_of((2, 2, 2, 2, 1, 1, 1, 1)), 3)
        self.survives(reserves, (NET, SITS, self.DUTIES, (("cancel", "F"),), 1), InterlineError)
        self.wrong_argument("duties", reserves, with_value(NET, 0, 1, 1, -180), SITS, self.DUTIES, (), 0)


if __name__ == "__main__":
    unittest.main()
