"""Points 151 to 153: how late a flight may be."""

import random
import unittest

from interline.errors import InterlineError, PaperError, TooMany
from interline.mending import least_mend
from interline.tolerance import accept_tolerance, curve, tolerance
from tests.samples import NET, VALUES, Case, damaged, net_of
from tests.test_book import WRONG_BOUNDS
from tests.test_broken import WRONG_BOOKINGS
from tests.test_mending import PRICES, TYPES, WRONG_PRICES, fan, told_bound, told_count, told_paper, told_ways

# Where F is more than 5 late, G is missed; H comes 200 later. G itself waits for its tail J from 41 minutes on.
FLIGHTS = [("F", "A", "B", 0, 60, "U"), ("G", "B", "C", 95, 150), ("H", "B", "C", 295, 350, "U"), ("J", "D", "B", 0, 50)]
NET1 = net_of(FLIGHTS, types=TYPES)
BOOKINGS = (("a", "Y", ("F", "G")), ("b", "Y", ("F", "G")))
MONEY = ((1,), (900,))
BASE = (NET1, BOOKINGS, MONEY)
WRONG_NUMBERS = (-1, 181, True, False, None, "1", (), 10 ** 40)
WRONG_FLIGHTS = (None, 5, "", "X", "a", ("F",), True, ["F"], "A")


def random_delay(seed):
    """Flights from A to B and on to C, one of which may be late, and bookings that change at B."""
    chance = random.Random(seed)
    flights = []
    for place in range(3):
        depart, slack = chance.randrange(20, 120), chance.choice((0, 5, 10, 40))
        flights += [(f"p{place}", "A", "B", depart, depart + 60, "T"),
                    (f"q{place}", "B", "C", depart + 90 + slack, depart + 150 + slack, "U")]
    net = net_of(flights, types=(("T", chance.choice((2, 3)), 0), ("U", 3, 0)))
    bookings = tuple((str(place), "Y", (f"p{place % 3}", f"q{place % 3}")) for place in range(chance.randint(0, 9)))
    return chance, (net, bookings, ((3,), (400,)), f"p{chance.randrange(3)}")


def course_of(flight, minutes):
    return (("late", flight, minutes),) if minutes else ()


class ToleranceTest(Case):

    def test_bounds_at_a_cost_and_below(self):
        self.assertEqual(tolerance(*BASE, "F", 0, 180), (5, ()))
        self.assertEqual(tolerance(*BASE, "F", 399, 180), (5, ()))
        self.assertEqual(tolerance(*BASE, "F", 400, 180), (180, None))
        self.assertEqual(tolerance(*BASE, "F", 10 ** 40, 180), (180, None))
        self.assertEqual(tolerance(*BASE, "F", 0, 5), (5, None))
        self.assertEqual(tolerance(*BASE, "F", 0, 6), (5, ()))
        self.assertEqual(tolerance(*BASE, "F", 0, 0), (0, None))
        self.assertEqual(tolerance(*BASE, "G", 0, 180), (180, None))

    def test_nothing_at_all(self):
        net = net_of([("F", "A", "B", 0, 60)], types=(("T", 1, 0),))
        bookings = (("a", "Y", ("F",)), ("b", "Y", ("F",)))
        self.assertEqual(tolerance(net, bookings, ((1,), (500,)), "F", 499, 180), (-1, ()))
        self.assertEqual(tolerance(net, bookings, ((1,), (500,)), "F", 499, 0), (-1, ()))
        self.assertEqual(tolerance(net, bookings, ((1,), (500,)), "F", 500, 180), (180, None))

    def test_costs_that_fall_again(self):
        # N has one seat for two. Where F is 20 late or more, so is L behind it, and who is bumped gets home by L.
        net = net_of([("F", "A", "B", 0, 60, "U"), ("L", "B", "C", 70, 130, "U"), ("N", "B", "C", 80, 140, "S")],
                     types=(("T", 9, 0), ("U", 9, 0), ("S", 1, 0)))
        bookings = (("a", "Y", ("N",)), ("b", "Y", ("N",)))
        arguments = (net, bookings, ((1,), (900,)), "F")
        self.assertEqual(curve(*arguments, 25), (900,) * 20 + (0, 1, 2, 3, 4, 5))
        self.assertEqual(tolerance(*arguments, 3, 25), (-1, ()))
        self.assertEqual(tolerance(*arguments, 900, 25), (25, None))
        self.assertIsNone(accept_tolerance(*arguments, 3, 25, (23, ())))
        self.wrong_paper("paper", accept_tolerance, *arguments, 3, 25, (22, ()))
        self.assertIsNone(accept_tolerance(*arguments, 3, 23, (23, None)))

    def test_against_the_words(self):
        seen = {"none": 0, "first": 0, "some": 0}
        for seed in range(150):
            chance, arguments = random_delay(seed)
            net, bookings, prices, flight = arguments
            most = chance.choice((0, 20, 70))
            # The bound of the empty row of choices, where the least cost is greater, makes papers that go on.
            root = told_bound(*told_ways(net, bookings, course_of(flight, most), prices), ())
            bound = chance.choice((0, 60, 300, 900, root, root, max(0, root - 1)))
            costs = [least_mend(net, bookings, course_of(flight, minutes), prices)[0] for minutes in range(most + 1)]
            self.assertEqual(curve(*arguments, most), tuple(costs))
            told = tolerance(*arguments, bound, most)
            first = next((minutes for minutes, cost in enumerate(costs) if cost > bound), None)
            if first is None:
                self.assertEqual(told, (most, None))
                seen["none"] += 1
            else:
                rows, free = told_ways(net, bookings, course_of(flight, first), prices)
                self.assertEqual(told, (first - 1, told_paper(rows, free, bound + 1)))
                seen["some" if first else "first"] += 1
            self.assertIsNone(accept_tolerance(*arguments, bound, most, told))
        self.assertGreater(min(seen.values()), 5, seen)

    def test_curve(self):
        self.assertEqual(curve(*BASE, "F", 8), (0,) * 6 + (400,) * 3)
        self.assertEqual(curve(*BASE, "F", 0), (0,))
        self.assertEqual(len(curve(*BASE, "F", 180)), 181)
        # Money back is cheaper at last.
        self.assertEqual(curve(NET1, BOOKINGS, ((5,), (900,)), "F", 6), (0,) * 6 + (1800,))

    def test_order_of_the_errors(self):
        for function, ahead, behind in ((tolerance, (-1,), ()), (accept_tolerance, (-1,), (None,)), (curve, (), ())):
            rest = (*ahead, None, *behind)
            self.asks_the_net_first(function, None, None, None, *rest)
            for value in WRONG_BOOKINGS:
                self.wrong_argument("bookings", function, NET, value, None, None, *rest)
            for value in WRONG_PRICES:
                self.wrong_argument("prices", function, NET, (), value, None, *rest)
            for value in WRONG_FLIGHTS:
                self.wrong_argument("flight", function, NET, (), PRICES, value, *rest)
            if ahead:
                for value in WRONG_BOUNDS:
                    self.wrong_argument("bound", function, NET, (), PRICES, "F", value, *rest[1:])
            for value in WRONG_NUMBERS:
                self.wrong_argument("most", function, NET, (), PRICES, "F", *((0,) if ahead else ()), value, *behind)
        self.survives(tolerance, (*BASE, "F", 5, 9), InterlineError)
        self.survives(accept_tolerance, (*BASE, "F", 5, 9, tolerance(*BASE, "F", 5, 9)), InterlineError)
        self.survives(curve, (*BASE, "F", 9), InterlineError)

    def many_ways(self):
        """A net in which a traveller who misses G has too many ways."""
        moved = [(name, start, end, depart + 30, arrive + 30) for name, start, end, depart, arrive, *_ in fan(7, 8, 4)[3]
                 if name not in ("F", "H")]
        flights = [("F", "D", "A", 0, 10, "U"), ("G", "A", "C", 40, 50, "V")]
        return net_of(flights + moved, types=(*TYPES, ("V", 9, 0)))

    def test_too_many_ways(self):
        arguments = (self.many_ways(), (("a", "Y", ("F", "G")),), ((1,), (7,)), "F")
        self.assertEqual(curve(*arguments, 0), (0,))
        self.assertEqual(tolerance(*arguments, 0, 0), (0, None))
        self.refused(TooMany, ("ways",), curve, *arguments, 1)
        self.refused(TooMany, ("ways",), tolerance, *arguments, 0, 1)
        self.refused(TooMany, ("ways",), accept_tolerance, *arguments, 0, 1, (0, ()))
        # Courses that accept_tolerance does not look at.
        self.wrong_paper("paper", accept_tolerance, *arguments, 0, 1, (-1, ()))
        self.assertIsNone(accept_tolerance(*arguments, 0, 1, (1, None)))
        self.wrong_paper("number", accept_tolerance, *arguments, 0, 1, (0, None))
        self.wrong_paper("form", accept_tolerance, *arguments, 0, 1, None)

    def test_too_many_choices(self):
        # Where F is late, nine travellers have two ways each that cost nothing, and z gets the money back for 5.
        flights = [("F", "D", "A", 0, 10, "W"), ("G", "A", "B", 40, 80, "U"), ("K", "A", "Z", 40, 50, "U"),
                   ("H", "A", "B", 41, 70), ("I", "A", "B", 42, 75)]
        net = net_of(flights, types=(*TYPES, ("W", 20, 0)))
        bookings = tuple((str(place), "Y", ("F", "G")) for place in range(9)) + (("z", "Y", ("F", "K")),)
        arguments = (net, bookings, ((1,), (5,)), "F")
        rows, free = told_ways(net, bookings, course_of("F", 1), ((1,), (5,)))
        self.assertEqual((told_count(rows, free, 4), told_count(rows, free, 5) > 600), (0, True))
        self.assertEqual(curve(*arguments, 0), (0,))
        self.refused(TooMany, ("choices",), curve, *arguments, 1)
        self.assertEqual(tolerance(*arguments, 4, 1), (0, ()))
        self.refused(TooMany, ("choices",), tolerance, *arguments, 5, 1)
        self.assertEqual(tolerance(*arguments, 5, 0), (0, None))
        self.assertIsNone(accept_tolerance(*arguments, 4, 1, (0, ())))
        self.wrong_paper("paper", accept_tolerance, *arguments, 5, 1, (0, ()))


class AcceptToleranceTest(Case):

    def rejects(self, reason, *values):
        for value in values:
            self.wrong_paper(reason, accept_tolerance, *BASE, "F", 399, 9, value)

    def test_any_right_number(self):
        # What fewer minutes cost is not looked at.
        paper = tolerance(*BASE, "F", 399, 9)[1]
        for number in range(5, 9):
            self.assertIsNone(accept_tolerance(*BASE, "F", 399, 9, (number, paper)))
        self.assertIsNone(accept_tolerance(*BASE, "F", 399, 9, (9, None)))
        self.rejects("paper", *((number, paper) for number in range(-1, 5)))

    def test_errors(self):
        number, paper = tolerance(*BASE, "F", 399, 9)
        self.assertEqual(number, 5)
        self.rejects("form", None, 5, (), (number,), (number, paper, 0), [number, paper], ("5", paper), (None, paper),
                     (True, paper), (False, None), ("kept", ()), "ab")
        self.rejects("number", (-2, paper), (10, paper), (10, None), (9, paper), (9, ()), (5, None), (-1, None), (10 ** 40, None),
                     (-10 ** 40, paper), (9, 5))
        self.rejects("paper", (5, 5), (5, (paper,)), (5, ((),) * 9), (4, paper), (5, [paper]), (5, True), (5, "a"), (-1, ()))
        told = (5, ())
        self.assertEqual(tolerance(*BASE, "F", 399, 9), told)
        for value in [*VALUES, *damaged((number, paper))]:
            if value not in ((6, ()), (7, ()), (8, ())):
                self.assertRaises(PaperError, accept_tolerance, *BASE, "F", 399, 9, value)

    def test_whole_papers(self):
        seen = 0
        for seed in range(150):
            chance, arguments = random_delay(seed)
            bound = chance.choice((60, 300, 500, 700))
            told = tolerance(*arguments, bound, 70)
            if told[1]:
                seen += 1
                for value in damaged(told[1]):
                    self.wrong_paper("paper", accept_tolerance, *arguments, bound, 70, (told[0], value))
        self.assertGreater(seen, 3)


if __name__ == "__main__":
    unittest.main()
