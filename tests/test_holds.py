"""Points 134 to 136: flights that are held, and what that costs."""

import itertools
import random
import unittest

from interline.broken import broken
from interline.courses import actual
from interline.errors import InterlineError, TooMany
from interline.holds import actual_held, cost_held, least_holds
from interline.mending import least_mend
from tests.samples import NET, Case, net_of, random_bookings, random_net
from tests.test_broken import WRONG_BOOKINGS
from tests.test_courses import random_course
from tests.test_mending import PRICES, WRONG_PRICES, fan

WRONG_COURSES = (None, 5, (None,), (("cancel", "X"),), [("cancel", "F")], (("cancel", "F"),) * 2, (("late", "F", 0),), True)
WRONG_OFFERS = (
    None, 5, "F", True, [], ("F", 5), (None,), (("F",),), (("F", 5, 5),), (("X", 5),), ((5, 5),), (("F", 0),), (("F", -1),),
    (("F", 1441),), (("F", True),), (("F", "5"),), (("F", None),), [("F", 5)], (["F", 5],), ((("F",), 5),),
)
WRONG_HOLDS = (*WRONG_OFFERS, (("F", 5), ("F", 6)), (("F", 5), ("F", 5)),
               (("F", 5), ("G", 5), ("H", 5), ("I", 5)))
WRONG_NUMBERS = (-1, 4, True, False, None, "1", (), 10 ** 40)

# Behind F, G is caught only if it waits; the tail of G flies on to D by J.
FLIGHTS = [("F", "A", "B", 0, 60, "U"), ("G", "B", "C", 95, 150), ("J", "C", "D", 185, 240), ("H", "B", "C", 600, 660, "U")]
STATIONS = (("A", 0, 30), ("B", 0, 30), ("C", 0, 10), ("D", 0, 30))
NET1 = net_of(FLIGHTS, types=(("T", 9, 20), ("U", 9, 20)), stations=STATIONS)
BOOKINGS = (("a", "Y", ("F", "G")), ("b", "Y", ("G", "J")), ("c", "Y", ("G",)))
LATE = (("late", "F", 25),)
MONEY = ((2,), (700,))


def told_held(net, course, holds):
    """What points 59 and 134 tell, word for word."""
    flights = {row[0]: row for row in net[3]}
    types = {row[0]: row for row in net[1]}
    result = {}
    for _, kind, row in net[4]:
        place = ready = None
        for name in row:
            _, start, end, depart, arrive, own, _, _ = flights[name]
            place = place or start
            mine = {event[0]: event for event in course if event[1] == name}
            if "cancel" in mine or place != start:
                result[name] = None
                continue
            late = mine["late"][2] if "late" in mine else 0
            begin = depart + max([late] + [minutes for other, minutes in holds if other == name])
            if ready is not None:
                begin = max(begin, ready)
            plane = mine["smaller"][2] if "smaller" in mine else own
            result[name] = (begin, begin + (arrive - depart), types[plane][1])
            place, ready = end, begin + (arrive - depart) + types[kind][2]
    return tuple(result[row[0]] for row in net[3])


def as_course(net, course, holds):
    """A course in which all is as with the holds: each held flight is late instead. Without "smaller" and too long ones."""
    minutes = {event[1]: event[2] for event in course if event[0] == "late"}
    for name, more in holds:
        minutes[name] = max(more, minutes.get(name, 0))
    gone = [event for event in course if event[0] == "cancel"]
    return tuple(gone) + tuple(("late", name, minutes[name]) for name in minutes
                               if name not in [event[1] for event in gone])


def told_rows(offers, many):
    return [row for count in range(many + 1) for row in itertools.combinations(offers, count)
            if len({hold[0] for hold in row}) == count]


class HeldTest(Case):

    def test_more_and_less_than_late(self):
        self.assertEqual(actual_held(NET, (("late", "F", 30),), (("F", 20),)), actual(NET, (("late", "F", 30),)))
        self.assertEqual(actual_held(NET, (("late", "F", 20),), (("F", 30),)), actual(NET, (("late", "F", 30),)))
        self.assertEqual(actual_held(NET, (), (("F", 30),)), actual(NET, (("late", "F", 30),)))
        self.assertEqual(actual_held(NET, (("late", "F", 30),), (("F", 30),)), actual(NET, (("late", "F", 30),)))
        self.assertEqual(actual_held(NET, (("late", "F", 30),), ()), actual(NET, (("late", "F", 30),)))

    def test_cancelled_smaller_and_late_tails(self):
        self.assertEqual(actual_held(NET, (("cancel", "F"),), (("F", 30),)), actual(NET, (("cancel", "F"),)))
        # G and J fall with F, so that they are held changes nothing.
        self.assertEqual(actual_held(NET, (("cancel", "F"),), (("G", 30), ("J", 5))), actual(NET, (("cancel", "F"),)))
        self.assertEqual(actual_held(NET, (("smaller", "F", "U"),), (("F", 30),))[0], (130, 190, 2))
        # The tail of G is ready 60 minutes behind its told departure.
        late = (("late", "F", 80),)
        self.assertEqual(actual_held(NET, late, (("G", 59),)), actual(NET, late))
        self.assertEqual(actual_held(NET, late, (("G", 60),)), actual(NET, late))
        self.assertEqual(actual_held(NET, late, (("G", 61),))[1], (261, 361, 3))

    def test_against_the_words(self):
        for seed in range(200):
            chance = random.Random(seed)
            net = random_net(seed, tails=3, longest=6)
            course = random_course(seed, net)
            names = [row[0] for row in net[3]]
            holds = tuple((name, chance.choice((1, 30, 70, 1440))) for name in chance.sample(names, min(3, len(names))))
            self.assertEqual(actual_held(net, course, holds), told_held(net, course, holds))

    def test_errors(self):
        self.asks_the_net_first(actual_held, None, None)
        for value in WRONG_COURSES:
            self.wrong_argument("course", actual_held, NET, value, None)
        for value in WRONG_HOLDS:
            self.wrong_argument("holds", actual_held, NET, (), value)
        self.survives(actual_held, (NET, (("cancel", "F"),), (("G", 5),)), InterlineError)
        actual_held(NET, (), (("F", 1), ("G", 1440), ("H", 5)))


class CostHeldTest(Case):

    def test_kept_and_broken_ones(self):
        # F arrives at 85, so G departs too early by 20 minutes; a comes by H at 660 instead of 150.
        self.assertEqual(cost_held(NET1, BOOKINGS, LATE, MONEY, ()), (700, 0))
        self.assertEqual(cost_held(NET1, BOOKINGS, LATE, MONEY, (("G", 19),)), (700, 2 * 19 + 2 * 4))
        # With G held so long, a is kept; J departs 15 minutes behind its tail, so b is late by that.
        self.assertEqual(cost_held(NET1, BOOKINGS, LATE, MONEY, (("G", 20),)), (0, 2 * (20 + 20 + 5)))
        self.assertEqual(cost_held(NET1, BOOKINGS, LATE, MONEY, (("G", 20), ("J", 30))), (0, 2 * (20 + 20 + 30)))
        self.assertEqual(cost_held(NET1, BOOKINGS, LATE, MONEY, (("F", 25), ("G", 20))), (0, 2 * (20 + 20 + 5)))
        self.assertEqual(cost_held(NET1, BOOKINGS, (), MONEY, (("F", 25),))[0], 700)
        self.assertEqual(cost_held(NET1, (), LATE, MONEY, (("G", 20),)), (0, 0))

    def test_connections_that_a_hold_breaks(self):
        # Another tail flies K behind G, and does not wait.
        net = net_of(FLIGHTS[:2] + [("K", "C", "D", 180, 240, "U")], types=(("T", 9, 20), ("U", 9, 20)))
        bookings = (("a", "Y", ("F", "G")), ("b", "Y", ("G", "K")))
        self.assertEqual(cost_held(net, bookings, LATE, MONEY, ()), (700, 0))
        self.assertEqual(cost_held(net, bookings, LATE, MONEY, (("G", 20),)), (700, 40))
        self.assertEqual(cost_held(net, bookings, LATE, MONEY, (("G", 20), ("K", 20))), (0, 80))
        self.assertEqual(cost_held(net, bookings, LATE, MONEY, (("G", 20), ("K", 19))), (700, 40))

    def test_prices_of_the_classes(self):
        bookings = (("a", "Y", ("F",)), ("b", "C", ("F",)), ("c", "C", ("H",)))
        self.assertEqual(cost_held(NET, bookings, (), ((7, 100), (1, 1)), (("F", 3), ("H", 2))), (0, 300 + 21 + 14))

    def test_against_courses_that_are_late(self):
        costs = set()
        for seed in range(150):
            chance = random.Random(seed)
            net = random_net(seed, tails=4, longest=5)
            bookings = random_bookings(seed, net, 6)
            course = tuple(event for event in random_course(seed, net, 2) if event[0] != "smaller")[:1]
            names = [row[0] for row in net[3]]
            holds = tuple((name, chance.choice((5, 30, 70))) for name in chance.sample(names, 2))
            same = as_course(net, course, holds)
            if len(same) > 3:
                continue
            told = dict(zip(names, actual(net, same)))
            ends = {row[0]: row[4] for row in net[3]}
            late = sum((told[journey[-1]][1] - ends[journey[-1]]) * PRICES[0][net[2].index(cabin)]
                       for (_, cabin, journey), found in zip(bookings, broken(net, bookings, same)) if not found)
            try:
                cost = least_mend(net, bookings, same, PRICES)[0]
            except TooMany as error:
                self.refused(TooMany, (error.reason,), cost_held, net, bookings, course, PRICES, holds)
                continue
            self.assertEqual(cost_held(net, bookings, course, PRICES, holds), (cost, late))
            costs |= {("mend", cost > 0), ("late", late > 0)}
        self.assertEqual(len(costs), 4)

    def test_errors(self):
        for function, rest in ((cost_held, (None,)), (least_holds, (None, None))):
            self.asks_the_net_first(function, None, None, None, *rest)
            for value in WRONG_COURSES:
                self.wrong_argument("course", function, NET, None, value, None, *rest)
            for value in WRONG_BOOKINGS:
                self.wrong_argument("bookings", function, NET, value, (), None, *rest)
            for value in WRONG_PRICES:
                self.wrong_argument("prices", function, NET, (), (), value, *rest)
        for value in WRONG_HOLDS:
            self.wrong_argument("holds", cost_held, NET, (), (), PRICES, value)
        for value in (*WRONG_OFFERS, tuple(("F", number) for number in range(1, 14))):
            self.wrong_argument("offers", least_holds, NET, (), (), PRICES, value, None)
        for value in WRONG_NUMBERS:
            self.wrong_argument("many", least_holds, NET, (), (), PRICES, (), value)
        self.survives(cost_held, (NET1, BOOKINGS, LATE, MONEY, (("G", 5),)), InterlineError)
        self.survives(least_holds, (NET1, BOOKINGS, LATE, MONEY, (("G", 5),), 1), InterlineError)

    def test_too_many(self):
        bookings = (("a", "Y", ("F",)), ("b", "Y", ("F",)), ("c", "Y", ("H",)))
        for net, sold, reason in ((fan(7, 8, 4), bookings[:1], "ways"), (fan(4, 5, 3, (9, 2)), bookings, "choices")):
            arguments = (net, sold, (("cancel", "F"),), ((0,), (0,)))
            self.refused(TooMany, (reason,), cost_held, *arguments, ())
            self.refused(TooMany, (reason,), cost_held, *arguments, (("s0", 5),))
            self.refused(TooMany, (reason,), least_holds, *arguments, (("s0", 5),), 1)
            self.refused(TooMany, (reason,), least_holds, *arguments, (), 0)
            self.wrong_argument("offers", least_holds, *arguments, None, 0)


class LeastHoldsTest(Case):

    OFFERS = (("G", 19), ("G", 30), ("J", 5), ("G", 20), ("J", 1))

    def test_rows(self):
        arguments = (NET1, BOOKINGS, LATE, MONEY)
        self.assertEqual(least_holds(*arguments, self.OFFERS, 0), (700, ()))
        self.assertEqual(least_holds(*arguments, self.OFFERS[:1], 3), (700, ()))
        self.assertEqual(least_holds(*arguments, self.OFFERS[:2], 3), (2 * (30 + 30 + 15), (("G", 30),)))
        self.assertEqual(least_holds(*arguments, self.OFFERS, 1), (90, (("G", 20),)))
        self.assertEqual(least_holds(*arguments, self.OFFERS, 3), (90, (("G", 20),)))
        self.assertEqual(least_holds(*arguments, (), 3), (700, ()))

    def test_the_first_of_equal_ones(self):
        arguments = (net_of(FLIGHTS[:3], types=(("T", 9, 20), ("U", 9, 20)), stations=STATIONS), BOOKINGS, LATE,
                     ((0,), (700,)))
        self.assertEqual(least_holds(*arguments, self.OFFERS, 3), (0, (("G", 30),)))
        self.assertEqual(least_holds(*arguments, self.OFFERS[::-1], 3), (0, (("G", 20),)))
        # Nothing is better than no hold at all.
        self.assertEqual(least_holds(NET1, (), LATE, MONEY, self.OFFERS, 3), (0, ()))
        self.assertEqual(least_holds(NET1, BOOKINGS, (), MONEY, self.OFFERS, 3), (0, ()))

    def test_holds_of_one_flight_are_never_in_one_row(self):
        # Both G and K must wait.
        net = net_of(FLIGHTS[:2] + [("K", "C", "D", 180, 240, "U")], types=(("T", 9, 20), ("U", 9, 20)))
        bookings = (("a", "Y", ("F", "G")), ("b", "Y", ("G", "K")))
        offers = (("G", 20), ("G", 20), ("G", 21), ("K", 20), ("K", 21))
        self.assertEqual(least_holds(net, bookings, LATE, MONEY, offers, 3), (80, (("G", 20), ("K", 20))))
        self.assertEqual(least_holds(net, bookings, LATE, MONEY, offers, 1), (700, ()))
        self.assertEqual(least_holds(net, bookings, LATE, MONEY, offers[:3], 3), (700, ()))

    def test_against_all_rows(self):
        lengths = {}
        for seed in range(150):
            chance = random.Random(seed)
            flights = []
            for place in range(3):
                depart, slack = chance.randrange(20, 200), chance.choice((0, 0, 5))
                flights += [(f"p{place}", "A", "B", depart, depart + 60, "T"),
                            (f"q{place}", "B", "C", depart + 90 + slack, depart + 150 + slack, "U")]
            net = net_of(flights, types=(("T", 2, 0), ("U", 2, 0)))
            bookings = tuple((str(place), "Y", (f"p{place % 3}", f"q{place % 3}")) for place in range(4))
            course = tuple(("late", f"p{place}", chance.choice((5, 10, 30))) for place in range(chance.randint(2, 3)))
            offers = tuple((chance.choice(flights + 2 * flights[1::2])[0], chance.choice((5, 10, 20, 30)))
                           for _ in range(chance.randint(0, 12)))
            many = chance.randint(0, 3)
            arguments = (net, bookings, course, ((3,), (400,)))
            try:
                told = [(sum(cost_held(*arguments, row)), row) for row in told_rows(offers, many)]
            except TooMany as error:
                self.refused(TooMany, (error.reason,), least_holds, *arguments, offers, many)
                continue
            least = min(cost for cost, _ in told)
            self.assertEqual(least_holds(*arguments, offers, many), next(row for row in told if row[0] == least))
            length = len(least_holds(*arguments, offers, many)[1])
            lengths[length] = lengths.get(length, 0) + 1
        self.assertEqual(len(lengths), 4, lengths)

    def test_twelve_offers(self):
        offers = tuple(("G", number) for number in range(9, 21))
        self.assertEqual(least_holds(NET1, BOOKINGS, LATE, MONEY, offers, 3), (90, (("G", 20),)))


if __name__ == "__main__":
    unittest.main()
