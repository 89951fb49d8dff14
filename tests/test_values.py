"""Points 137 to 139: what seats and events are worth."""

import itertools
import math
import random
import unittest

from interline.book import guard
from interline.courses import actual, courses
from interline.errors import InterlineError, TooMany
from interline.mending import least_mend
from interline.values import fair_shares, seat_values, weak_courses
from tests.samples import NET, Case, net_of, random_bookings, random_net, with_part
from tests.test_book import BOOKINGS, MONEY, NET1, THREATS, WRONG_BOUNDS, WRONG_NUMBERS, WRONG_THREATS, told_least
from tests.test_broken import WRONG_BOOKINGS
from tests.test_courses import line, random_course, threats_of
from tests.test_holds import WRONG_COURSES
from tests.test_mending import PRICES, TYPES, WRONG_PRICES, fan


def with_seat(net, course, name):
    """A net and a course in which all is alike, but that a flight has one seat more: of a type of its own."""
    told = dict(zip([row[0] for row in net[3]], actual(net, course)))
    kinds = {}
    types = list(net[1])
    flights = []
    for row in net[3]:
        seats = told[row[0]][2] + (row[0] == name) if told[row[0]] else 1
        turn = {kind: minutes for kind, _, minutes in net[1]}[row[5]]
        if (seats, turn) not in kinds:
            kinds[seats, turn] = f"k{len(kinds)}"
            types.append((kinds[seats, turn], seats, turn))
        flights.append(row[:5] + (kinds[seats, turn],) + row[6:])
    return types, flights


class SeatValuesTest(Case):

    def test_values(self):
        # Without F, its two travellers go on G, where one seat is left, and on H.
        self.assertEqual(seat_values(NET1, BOOKINGS, (("cancel", "F"),), MONEY), (None, 150, 0))
        self.assertEqual(seat_values(NET1, BOOKINGS, (), MONEY), (0, 0, 0))
        self.assertEqual(seat_values(NET1, BOOKINGS, (("smaller", "F", "S"),), MONEY), (90, 0, 0))
        self.assertEqual(seat_values(NET1, (), (("cancel", "F"), ("cancel", "G")), MONEY), (None, None, 0))
        self.assertEqual(seat_values(((), (), ("Y",), (), (), ()), (), (), MONEY), ())

    def test_numbers_below_nothing(self):
        # G is cancelled, and F is full: b is bumped at F and costs little. With a seat more b is carried to B,
        # where a seat is to be had only for much later, or the money back.
        net = net_of([("F", "A", "B", 0, 60, "S"), ("G", "B", "C", 100, 160, "T"), ("H", "A", "C", 70, 165, "T"),
                      ("I", "B", "C", 400, 460, "T")], types=(("T", 2, 0), ("U", 2, 0), ("S", 1, 0)))
        bookings = (("a", "Y", ("F", "G")), ("b", "Y", ("F", "G")))
        told = seat_values(net, bookings, (("cancel", "G"),), ((1,), (500,)))
        self.assertEqual(least_mend(net, bookings, (("cancel", "G"),), ((1,), (500,)))[0], 305)
        self.assertEqual(told, (-295, None, 0, 0))

    def test_against_nets_with_other_types(self):
        signs = set()
        for seed in range(120):
            chance = random.Random(seed)
            net = random_net(seed, tails=4, longest=4, span=30)
            bookings = random_bookings(seed, net, 8)
            # Lateness and cancelled flights stay in the course; smaller planes are told by the types.
            course = random_course(seed, net, 2)
            rest = tuple(event for event in course if event[0] != "smaller")
            prices = (PRICES[0], (chance.choice((400, 40)), 70))
            try:
                told = seat_values(net, bookings, course, prices)
            except TooMany:
                continue
            cost = least_mend(net, bookings, course, prices)[0]
            found = actual(net, course)
            for place, row in enumerate(net[3]):
                if found[place] is None:
                    self.assertIsNone(told[place])
                    continue
                other = self.refit(net, course, row[0])
                if other is not None:
                    more = least_mend(other, bookings, rest, prices)[0]
                    self.assertEqual(told[place], cost - more)
                    signs.add((told[place] > 0) - (told[place] < 0))
        self.assertLessEqual({0, 1}, signs)

    def refit(self, net, course, name):
        """The net with the flights' own types, where there are few enough of these and of tails."""
        types, flights = with_seat(net, course, name)
        kinds = {row[0]: row[5] for row in flights}
        tails = []
        for tail, _, row in net[4]:
            if len({kinds[flight] for flight in row}) > 1:
                return None
            tails.append((tail, kinds[row[0]] if row else types[0][0], row))
        used = {row[5] for row in flights} | {row[1] for row in tails}
        types = tuple(row for row in types if row[0] in used)
        if len(types) > 4:
            return None
        return with_part(with_part(with_part(net, 1, types), 3, flights), 4, tails)

    def test_order_of_the_errors(self):
        for function in (seat_values, fair_shares):
            self.asks_the_net_first(function, None, None, None)
            for value in WRONG_COURSES:
                self.wrong_argument("course", function, NET, None, value, None)
            for value in WRONG_BOOKINGS:
                self.wrong_argument("bookings", function, NET, value, (), None)
            for value in WRONG_PRICES:
                self.wrong_argument("prices", function, NET, (), (), value)
            self.survives(function, (NET1, BOOKINGS, (("cancel", "F"),), MONEY), InterlineError)

    def test_too_many(self):
        bookings = (("a", "Y", ("F",)), ("b", "Y", ("F",)), ("c", "Y", ("H",)))
        for net, sold, reason in ((fan(7, 8, 4), bookings[:1], "ways"), (fan(4, 5, 3, (9, 2)), bookings, "choices")):
            arguments = (net, sold, (("cancel", "F"),), ((0,), (0,)))
            self.refused(TooMany, (reason,), seat_values, *arguments)
            self.refused(TooMany, (reason,), fair_shares, *arguments)
            self.refused(TooMany, (reason,), weak_courses, *arguments[:3], 1, *arguments[3:], 0)
            # The day without events is looked at alone.
            self.assertEqual(weak_courses(*arguments[:3], 0, *arguments[3:], 0), ())

    def test_too_many_with_a_seat_more(self):
        # With one seat on r0 there are few choices, with two there are too many.
        bookings = (("a", "Y", ("F",)), ("b", "Y", ("F",)), ("c", "Y", ("H",)))
        arguments = (fan(4, 5, 3, (9, 1)), bookings, (("cancel", "F"),), ((0,), (0,)))
        self.assertEqual(least_mend(*arguments)[0], 0)
        self.refused(TooMany, ("choices",), seat_values, *arguments)


class FairSharesTest(Case):

    def test_shares(self):
        # F cancelled costs 330, G with a seat less nothing alone, and both 480.
        course = (("smaller", "G", "S"), ("cancel", "F"))
        self.assertEqual(fair_shares(NET1, BOOKINGS, course, MONEY), ((150, 810), 2))
        self.assertEqual(fair_shares(NET1, BOOKINGS, course[::-1], MONEY), ((810, 150), 2))
        self.assertEqual(fair_shares(NET1, BOOKINGS, course[1:], MONEY), ((330,), 1))
        self.assertEqual(fair_shares(NET1, BOOKINGS, (), MONEY), ((), 1))

    def test_against_all_orders(self):
        shapes = set()
        for seed in range(150):
            net = random_net(seed, tails=4, longest=5)
            bookings = random_bookings(seed, net, 7)
            course = random_course(seed, net)

            def cost(events):
                part = tuple(event for event in course if event in events)
                return least_mend(net, bookings, part, PRICES)[0]
            try:
                sums = [0] * len(course)
                for order in itertools.permutations(range(len(course))):
                    for number, place in enumerate(order):
                        events = [course[other] for other in order[:number + 1]]
                        sums[place] += cost(events) - cost(events[:-1])
            except TooMany as error:
                self.refused(TooMany, (error.reason,), fair_shares, net, bookings, course, PRICES)
                continue
            told = fair_shares(net, bookings, course, PRICES)
            self.assertEqual(told, (tuple(sums), math.factorial(len(course))))
            self.assertEqual(sum(told[0]), told[1] * (cost(course) - cost(())))
            shapes.add((len(course), len(set(sums)) > 1))
        self.assertLessEqual({(0, False), (1, False), (2, True), (3, True)}, shapes)


class WeakCoursesTest(Case):

    def test_bounds_at_a_cost_and_below(self):
        arguments = (NET1, BOOKINGS, THREATS, 2, MONEY)
        late, small_g, small_f, gone = THREATS
        self.assertEqual(weak_courses(*arguments, 480), ())
        self.assertEqual(weak_courses(*arguments, 479), ((small_g, gone),))
        self.assertEqual(weak_courses(*arguments, 330), ((small_g, gone),))
        self.assertEqual(weak_courses(*arguments, 329), ((gone,),))
        self.assertEqual(weak_courses(*arguments[:3], 1, MONEY, 330), ())
        self.assertEqual(weak_courses(*arguments[:3], 0, MONEY, 0), ())

    def test_a_day_without_events_that_is_weak(self):
        net = net_of([("F", "A", "B", 0, 60)], types=(("T", 1, 0),))
        bookings = (("a", "Y", ("F",)), ("b", "Y", ("F",)))
        self.assertEqual(weak_courses(net, bookings, (("cancel", "F"),), 3, MONEY, 499), ((),))
        self.assertEqual(weak_courses(net, bookings, (("cancel", "F"),), 3, MONEY, 500), ((("cancel", "F"),),))

    def test_against_all_courses(self):
        sizes = {}
        for seed in range(150):
            net = random_net(seed, tails=4, longest=5)
            bookings = random_bookings(seed, net, 6)
            threats = tuple(dict.fromkeys(random_course(seed, net) + random_course(seed + 900, net)))
            rows = courses(net, threats, 3)
            costs = {row: told_least(net, bookings, row, PRICES) for row in rows}
            if any(isinstance(cost, str) for cost in costs.values()):
                continue
            for bound in (0, 60, 250):
                weak = [row for row in rows if costs[row] > bound]
                told = tuple(row for row in weak
                             if not any(len(other) < len(row) and set(other) <= set(row) for other in weak))
                self.assertEqual(weak_courses(net, bookings, threats, 3, PRICES, bound), told)
                self.assertEqual(told == (), guard(net, bookings, threats, 3, PRICES, bound)[0] == "kept")
                for row in told:
                    sizes[len(row)] = sizes.get(len(row), 0) + 1
        self.assertLessEqual({0, 1, 2}, set(sizes), sizes)

    def test_courses_that_it_does_not_look_at(self):
        # K and F together have too many choices, but without K the book does not close anyway.
        net = fan(4, 5, 3)
        flights = [row[:7] + ((9, 9),) for row in net[3]] + [("K", "C", "Z", 25, 35, "U", 100, (9, 9))]
        net = (net[0], net[1], ("C", "Y"), tuple(flights), net[4] + (("K", "U", ("K",)),), ())
        bookings = (("a", "Y", ("F",)), ("b", "Y", ("F",)), ("c", "C", ("K",)))
        threats = (("cancel", "K"), ("cancel", "F"))
        prices = ((0, 0), (1000, 0))
        self.refused(TooMany, ("choices",), least_mend, net, bookings, threats, prices)
        self.refused(TooMany, ("choices",), weak_courses, net, bookings, threats, 2, prices, 1000)
        self.assertEqual(weak_courses(net, bookings, threats, 2, prices, 999), (threats[:1],))
        self.assertEqual(weak_courses(net, bookings, threats, 1, prices, 1000), ())

    def test_choices_are_counted_up_to_the_least_cost(self):
        # `guard` counts only up to the bound, if that is less.
        flights = [("F", "A", "B", 0, 60, "U"), ("H", "B", "Z", 70, 80, "U"), ("G", "A", "B", 20, 50),
                   ("I", "A", "B", 52, 60)]
        net = net_of(flights, types=TYPES)
        bookings = tuple((str(place), "Y", ("F",)) for place in range(9)) + (("z", "Y", ("H",)),)
        threats = (("cancel", "F"),)
        self.assertEqual(guard(net, bookings, threats, 1, ((1,), (5,)), 4)[0], "broken")
        self.refused(TooMany, ("choices",), weak_courses, net, bookings, threats, 1, ((1,), (5,)), 4)

    def test_order_of_the_errors(self):
        self.asks_the_net_first(weak_courses, None, None, None, None, -1)
        for value in WRONG_BOOKINGS:
            self.wrong_argument("bookings", weak_courses, NET, value, None, 9, None, -1)
        for value in WRONG_THREATS:
            self.wrong_argument("threats", weak_courses, NET1, (), value, 9, None, -1)
        for value in WRONG_NUMBERS:
            self.wrong_argument("events", weak_courses, NET1, (), (), value, None, -1)
        for value in WRONG_PRICES:
            self.wrong_argument("prices", weak_courses, NET, (), (), 0, value, -1)
        for value in WRONG_BOUNDS:
            self.wrong_argument("bound", weak_courses, NET, (), (), 0, PRICES, value)
        threats = threats_of((2, 2, 2, 2, 1, 1, 1, 1))
        self.wrong_argument("bound", weak_courses, line(8), (), threats, 3, MONEY, -1)
        self.refused(TooMany, ("courses",), weak_courses, line(8), (), threats, 3, MONEY, 0)
        self.survives(weak_courses, (NET1, BOOKINGS, THREATS, 1, MONEY, 5), InterlineError)


if __name__ == "__main__":
    unittest.main()
