"""Points 102 to 105: windows of time for requests, with prices."""

import itertools
import random
import unittest

from interline.errors import ArgumentError, InterlineError, PaperError
from interline.slots import accept_slots, least_slots, requests_at
from tests.samples import NET, VALUES, Case, damaged, net_of, random_net

REQUESTS = (("a", 1, 3), ("b", 1, 2), ("c", 1, 5))
WRONG_WINDOWS = (0, 49, -1, True, False, None, "5", (), (5,), 10 ** 40, [5])
WRONG_ROOMS = (0, 25, -1, True, False, None, "5", (), (5,), 10 ** 40)
WRONG_REQUESTS = (
    None, 5, "a", True, [], ("a", 1, 2), (None,), (("a", 1),), (("a", 1, 2, 3),), ((1, 1, 2),), (("a", None, 2),),
    (("a", True, 2),), (("a", "1", 2),), (("a", 1, -1),), (("a", 1, 1001),), (("a", 1, True),), (("a", 1, None),),
    (("a", 1, 2), ("a", 2, 3)), [("a", 1, 2)], (["a", 1, 2],), ((("a",), 1, 2),), (("a", 5, 2),), (("a", -1, 2),),
    (("a", 48, 0),), (("a", 10 ** 40, 1),), (("a", -10 ** 40, 1),), (("a", 4, 2), ("b", 0, 2), ("c", 5, 2)),
    tuple((str(place), 0, 0) for place in range(25)),
)


def told_cost(requests, given):
    return sum(weight * abs(window - wanted) for (_, wanted, weight), window in zip(requests, given))


def all_ways(requests, windows, room):
    """All ways to give each request a window, none to more than its room."""
    return [given for given in itertools.product(range(windows), repeat=len(requests))
            if all(given.count(number) <= room for number in given)]


def are_right_prices(requests, windows, room, given, prices):
    """What point 103 tells of prices."""
    if len(prices) != windows or any(price < 0 for price in prices):
        return False
    if any(price and given.count(number) < room for number, price in enumerate(prices)):
        return False
    return all(weight * abs(window - wanted) + prices[window] <= weight * abs(other - wanted) + prices[other]
               for (_, wanted, weight), window in zip(requests, given) for other in range(windows))


class LeastSlotsTest(Case):

    def test_slots(self):
        # b is the cheapest to move, then a.
        cost, given, prices = least_slots(REQUESTS, 3, 1)
        self.assertEqual((cost, given[2], sorted(given)), (5, 1, [0, 1, 2]))
        self.assertTrue(are_right_prices(REQUESTS, 3, 1, given, prices))
        self.assertEqual(least_slots(REQUESTS, 3, 2)[0], 2)
        self.assertEqual(least_slots(REQUESTS, 3, 3)[:2], (0, (1, 1, 1)))
        self.assertEqual(least_slots(REQUESTS, 3, 4), (0, (1, 1, 1), (0, 0, 0)))
        self.assertEqual(least_slots((), 2, 1), (0, (), (0, 0)))
        self.assertIsNone(least_slots(REQUESTS, 2, 1))
        self.assertEqual(least_slots(REQUESTS, 2, 2)[0], 2)

    def test_chains_of_moves(self):
        # The last request pushes all others on, each by one window.
        requests = (("a", 1, 1), ("b", 2, 1), ("c", 3, 1), ("d", 0, 9), ("e", 0, 9))
        cost, given, prices = least_slots(requests, 5, 1)
        self.assertTrue(are_right_prices(requests, 5, 1, given, prices))
        self.assertEqual(cost, min(told_cost(requests, row) for row in all_ways(requests, 5, 1)))

    def test_against_all_ways(self):
        seen = {"none": 0, "full": 0, "priced": 0, "moved": 0}
        for seed in range(600):
            chance = random.Random(seed)
            windows, room = chance.randint(1, 5), chance.randint(1, 3)
            requests = tuple((f"r{place}", chance.randrange(windows), chance.choice((0, 1, 2, 3, 7, 1000)))
                             for place in range(chance.randint(0, 5)))
            ways = all_ways(requests, windows, room)
            told = least_slots(requests, windows, room)
            if not ways:
                self.assertIsNone(told)
                seen["none"] += 1
                continue
            cost, given, prices = told
            self.assertIn(given, ways)
            self.assertEqual(cost, told_cost(requests, given))
            self.assertEqual(cost, min(told_cost(requests, row) for row in ways))
            self.assertTrue(are_right_prices(requests, windows, room, given, prices))
            self.assertIsNone(accept_slots(requests, windows, room, told))
            seen["full"] += len(requests) == windows * room
            seen["priced"] += any(prices)
            seen["moved"] += cost > 0
        self.assertGreater(min(seen.values()), 20, seen)

    def test_large_cases(self):
        for seed in range(20):
            chance = random.Random(seed)
            windows, room = chance.choice(((48, 1), (24, 1), (12, 2), (8, 3), (1, 24), (48, 24)))
            requests = tuple((str(place), chance.randrange(windows) // 4, chance.randint(0, 1000)) for place in range(24))
            told = least_slots(requests, windows, room)
            self.assertIsNone(accept_slots(requests, windows, room, told))
            self.assertTrue(are_right_prices(requests, windows, room, *told[1:]))

    def test_just_enough_room(self):
        requests = tuple((str(place), 0, 5) for place in range(6))
        self.assertEqual(least_slots(requests, 3, 2)[0], 30)
        self.assertIsNone(least_slots(requests, 5, 1))
        self.assertEqual(least_slots(requests, 6, 1)[0], 75)

    def test_wanted_windows(self):
        # The window that is wanted is one of the windows: from 0 to below their number.
        for windows in (1, 2, 7, 48):
            for wanted in (0, windows - 1):
                requests = (("a", wanted, 1),)
                told = least_slots(requests, windows, 24)
                self.assertEqual(told, (0, (wanted,), (0,) * windows))
                self.assertIsNone(accept_slots(requests, windows, 24, told))
            for wanted in (-1, windows, windows + 1, 10 ** 40, -10 ** 40):
                for requests in ((("a", wanted, 1),), (("a", 0, 1), ("b", wanted, 0)), (("b", wanted, 1000), ("a", 0, 1))):
                    self.wrong_argument("requests", least_slots, requests, windows, 24)
                    self.wrong_argument("requests", accept_slots, requests, windows, 24, None)
                    self.wrong_argument("requests", accept_slots, requests, windows, 24, (0, (0,), (0,) * windows))
        # Where there is no room for all of them either, the wrong request is still told.
        self.wrong_argument("requests", least_slots, (("a", 0, 1), ("b", 1, 1)), 1, 1)
        self.wrong_argument("windows", least_slots, (("a", 1, 1),), 0, 0)
        self.wrong_argument("room", least_slots, (("a", 1, 1),), 1, 0)

    def test_order_of_the_errors(self):
        for function, rest in ((least_slots, ()), (accept_slots, (None,))):
            for value in WRONG_WINDOWS:
                self.wrong_argument("windows", function, None, value, None, *rest)
            for value in WRONG_ROOMS:
                self.wrong_argument("room", function, None, 5, value, *rest)
            for value in WRONG_REQUESTS:
                self.wrong_argument("requests", function, value, 5, 5, *rest)
            for windows, room in ((1, 1), (48, 24)):
                if rest == ():
                    function((("a", 0, 1000),), windows, room)
        self.survives(least_slots, (REQUESTS, 3, 1), ArgumentError)
        self.survives(accept_slots, (REQUESTS, 3, 1, least_slots(REQUESTS, 3, 1)), InterlineError)


class AcceptSlotsTest(Case):

    def rejects(self, reason, *values):
        for value in values:
            self.wrong_paper(reason, accept_slots, REQUESTS, 4, 1, value)

    def test_any_right_triple(self):
        many = 0
        for given in all_ways(REQUESTS, 4, 1):
            for prices in itertools.product(range(5), repeat=4):
                told = (told_cost(REQUESTS, given), given, prices)
                if are_right_prices(REQUESTS, 4, 1, given, prices):
                    self.assertIsNone(accept_slots(REQUESTS, 4, 1, told))
                    many += 1
                else:
                    self.rejects("prices", told)
        self.assertGreater(many, 3)

    def test_errors(self):
        cost, given, prices = least_slots(REQUESTS, 4, 1)
        self.rejects("form", None, 5, (), (cost, given), (cost, given, prices, 0), [cost, given, prices],
                     (None, given, prices), (True, given, prices), ("5", given, prices), "abc")
        self.rejects("windows", (cost, None, prices), (cost, given[:2], prices), (cost, given + (3,), prices),
                     (cost, list(given), prices), (cost, (1, 1, 2), prices), (cost, (0, 1, 4), prices),
                     (cost, (0, 1, -1), prices), (cost, (0, True, 2), prices), (cost, (0, None, 2), prices),
                     (0, (1, 1, 1), prices), (cost, 5, None))
        self.rejects("cost", (cost + 1, given, prices), (cost - 1, given, prices), (-cost, given, None), (0, (0, 1, 2), prices))
        self.rejects("prices", (cost, given, None), (cost, given, prices[:3]), (cost, given, prices + (0,)),
                     (cost, given, list(prices)), (cost, given, (0, 0, 0, 0)), (cost, given, (0, -1, 0, 0)),
                     (cost, given, tuple(price + 1 for price in prices)), (cost, given, (False,) + prices[1:]),
                     (cost, given, (None,) + prices[1:]), (cost, given, (99, 99, 99, 99)))
        # A way that costs more has no right prices.
        self.rejects("prices", (told_cost(REQUESTS, (1, 0, 2)), (1, 0, 2), prices))

    def test_prices_below_nothing(self):
        # No window has room left, so all prices may be more alike, but not less than 0.
        told = least_slots(REQUESTS, 3, 1)
        cost, given, prices = told
        self.assertIsNone(accept_slots(REQUESTS, 3, 1, (cost, given, tuple(price + 7 for price in prices))))
        self.wrong_paper("prices", accept_slots, REQUESTS, 3, 1,
                         (cost, given, tuple(price - min(prices) - 1 for price in prices)))

    def test_more_requests_than_room(self):
        self.wrong_paper("form", accept_slots, REQUESTS, 2, 1, None)
        for given in ((0, 1), (0, 1, 1), (0, 1, 2)):
            self.wrong_paper("windows", accept_slots, REQUESTS, 2, 1, (told_cost(REQUESTS, given), given, (0, 0)))

    def test_any_values(self):
        told = least_slots(REQUESTS, 3, 1)
        for value in [*VALUES, *damaged(told)]:
            try:
                accept_slots(REQUESTS, 3, 1, value)
            except PaperError:
                continue
            cost, given, prices = value
            self.assertTrue(are_right_prices(REQUESTS, 3, 1, given, prices))


class RequestsAtTest(Case):

    def test_requests(self):
        self.assertEqual(requests_at(NET, "B", 100), (("F", 1, 1), ("G", 2, 1)))
        self.assertEqual(requests_at(NET, "B", 40), (("F", 4, 1), ("G", 5, 1)))
        self.assertEqual(requests_at(NET, "A", 1440), (("F", 0, 1), ("H", 0, 1), ("J", 0, 1)))
        self.assertEqual(requests_at(NET, "C", 1), (("G", 300, 1), ("I", 290, 1), ("J", 400, 1)))

    def test_departures_and_arrivals_in_one_window(self):
        net = net_of([("b", "A", "B", 0, 59), ("a", "B", "A", 60, 119), ("c", "A", "B", 119, 180), ("d", "B", "C", 5, 20)])
        self.assertEqual(requests_at(net, "A", 60), (("b", 0, 1), ("a", 1, 1), ("c", 1, 1)))
        self.assertEqual(requests_at(net, "B", 60), (("b", 0, 1), ("a", 1, 1), ("c", 3, 1), ("d", 0, 1)))
        self.assertEqual(least_slots(requests_at(net, "A", 60), 3, 1)[0], 1)

    def test_against_the_words(self):
        for seed in range(40):
            net = random_net(seed, tails=5, longest=6)
            length = random.Random(seed).choice((1, 7, 60, 1440))
            for name, _, _ in net[0]:
                told = []
                for flight in net[3]:
                    if flight[1] == name:
                        told.append((flight[0], flight[3] // length, 1))
                    elif flight[2] == name:
                        told.append((flight[0], flight[4] // length, 1))
                self.assertEqual(requests_at(net, name, length), tuple(told))

    def test_errors(self):
        self.asks_the_net_first(requests_at, None, None)
        for value in (None, 5, "", "X", "a", ("A",), True, ["A"]):
            self.wrong_argument("station", requests_at, NET, value, None)
        for value in (0, 1441, -1, True, None, "5", (), 10 ** 40):
            self.wrong_argument("length", requests_at, NET, "A", value)
        self.survives(requests_at, (NET, "A", 60), InterlineError)


if __name__ == "__main__":
    unittest.main()
