"""Points 84 to 89: the fewest tails, and swaps of what they fly."""

import random
import unittest

from interline.aircraft import accept_deficits, deficits, least_tails, refitted, rotation, swapped, swaps
from interline.checks import check
from interline.errors import InterlineError, NetError
from tests.samples import NET, VALUES, Case, damaged, net_of, random_net, with_part, with_value


def told_deficits(net, kind):
    """What points 84 and 85 tell, with the deficit asked at every minute that matters."""
    turn = {row[0]: row[2] for row in net[1]}[kind]
    flights = [row for row in net[3] if row[5] == kind]
    rows = []
    for station, _, _ in net[0]:
        best = (0, None)
        for time in sorted(row[3] for row in flights if row[1] == station):
            out = sum(row[1] == station and row[3] <= time for row in flights)
            back = sum(row[2] == station and row[4] + turn <= time for row in flights)
            if out - back > best[0]:
                best = (out - back, time)
        rows.append(best)
    return tuple(rows)


def fewest_tails(net, kind):
    """The least number of tails, by trying for each flight every row that it can stand behind."""
    turn = {row[0]: row[2] for row in net[1]}[kind]
    flights = sorted((row for row in net[3] if row[5] == kind), key=lambda row: row[3])
    best = len(flights)

    def place(at, ends, rows):
        nonlocal best
        if rows >= best and at < len(flights):
            return
        if at == len(flights):
            best = min(best, rows)
            return
        _, start, end, depart, arrive = flights[at][:5]
        for key in {end for end in ends if end[0] == start and end[1] <= depart}:
            left = list(ends)
            left.remove(key)
            place(at + 1, left + [(end, arrive + turn)], rows)
        place(at + 1, ends + [(end, arrive + turn)], rows + 1)

    place(0, [], 0)
    return best


def told_swaps(net):
    """All swaps, with `check` asked of each net."""
    tails = net[4]
    found = []
    for first, (name, kind, row) in enumerate(tails):
        for second in range(first + 1, len(tails)):
            other_name, other_kind, other_row = tails[second]
            for one in range(len(row) + 1):
                for other in range(len(other_row) + 1):
                    if row[one:] == other_row[other:]:
                        continue
                    rows = list(tails)
                    rows[first] = (name, kind, row[:one] + other_row[other:])
                    rows[second] = (other_name, other_kind, other_row[:other] + row[one:])
                    try:
                        check(with_part(net, 4, rows))
                    except NetError:
                        continue
                    found.append(((first, one, second, other), with_part(net, 4, rows)))
    return sorted(found)


def there_and_back(turn, waits):
    """Flights of type T from A to B and back, with so many minutes between them, and of U, each by a tail of its own."""
    flights, time = [], 100
    for place, wait in enumerate(waits):
        flights.append((f"f{place}", "AB"[place % 2], "BA"[place % 2], time, time + 50, "T"))
        time += 50 + wait
    rows = [(f"N{place}", "T", (flight[0],)) for place, flight in enumerate(flights)]
    return with_part(net_of(flights, types=(("T", 9, turn), ("U", 9, 0))), 4, rows)


class DeficitsTest(Case):

    def test_deficits(self):
        self.assertEqual(deficits(NET, "T"), ((1, 100), (0, None), (0, None), (0, None)))
        self.assertEqual(deficits(NET, "U"), ((1, 100), (0, None), (0, None), (0, None)))
        self.assertEqual(least_tails(NET), (("T", 1), ("U", 1)))

    def test_exactly_the_turn_and_one_minute_less(self):
        for turn, told in ((30, ((1, 100), (0, None))), (31, ((1, 100), (1, 180)))):
            net = there_and_back(turn, (30,) * 2)
            self.assertEqual(deficits(net, "T"), told)
            self.assertEqual(least_tails(net), (("T", 1 + (turn > 30)), ("U", 0)))
            self.assertEqual(rotation(net, "T"), (("f0", "f1"),) if turn == 30 else (("f0",), ("f1",)))

    def test_departures_and_arrivals_at_one_time(self):
        # At 150 one flight arrives at B and two depart there; the tails need no turn.
        net = net_of([("f", "A", "B", 100, 150), ("g", "B", "A", 150, 200), ("h", "B", "C", 150, 250),
                      ("i", "C", "B", 100, 150)])
        self.assertEqual(deficits(net, "T"), ((1, 100), (0, None), (1, 100)))
        net = net_of([("f", "A", "B", 100, 150), ("g", "B", "A", 150, 200), ("h", "B", "C", 150, 250)])
        self.assertEqual(deficits(net, "T"), ((1, 100), (1, 150), (0, None)))
        net = with_value(net, 3, 0, 4, 149)
        self.assertEqual(deficits(net, "T"), ((1, 100), (1, 150), (0, None)))

    def test_the_first_time_of_the_greatest_deficit(self):
        net = net_of([("f", "A", "B", 100, 150), ("g", "A", "B", 120, 170), ("h", "B", "A", 200, 250),
                      ("i", "A", "B", 300, 350), ("j", "A", "B", 400, 450)])
        self.assertEqual(deficits(net, "T"), ((3, 400), (0, None)))
        net = net_of([("f", "A", "B", 100, 150), ("g", "A", "B", 120, 170), ("h", "B", "A", 200, 250),
                      ("i", "A", "B", 300, 350)])
        self.assertEqual(deficits(net, "T"), ((2, 120), (0, None)))

    def test_types_and_flights(self):
        net = with_part(net_of([("f", "A", "B", 100, 150)]), 1, (("T", 9, 0), ("U", 5, 0)))
        self.assertEqual((deficits(net, "U"), rotation(net, "U")), (((0, None), (0, None)), ()))
        self.assertEqual(least_tails(net), (("T", 1), ("U", 0)))
        self.assertEqual(least_tails(((), (), ("Y",), (), (), ())), ())

    def test_against_the_words(self):
        more = 0
        for seed in range(150):
            net = random_net(seed, tails=4, longest=4, stations=3, span=30)
            told = {kind: told_deficits(net, kind) for kind, _, _ in net[1]}
            for kind in told:
                self.assertEqual(deficits(net, kind), told[kind])
                self.assertIsNone(accept_deficits(net, kind, told[kind]))
                rows = rotation(net, kind)
                self.assertEqual(len(rows), sum(number for number, _ in told[kind]))
                self.assertEqual(len(rows), fewest_tails(net, kind))
                more += len(rows) > 1
            self.assertEqual(least_tails(net), tuple((kind, len(rotation(net, kind))) for kind in told))
        self.assertGreater(more, 80)

    def test_accept_deficits(self):
        told = deficits(NET, "T")
        self.assertIsNone(accept_deficits(NET, "T", told))
        for value in (None, 5, (), told[:3], told + told[3:], list(told), (None, *told[1:]), ([1, 100], *told[1:]),
                      ((1,), *told[1:]), ((1, 100, 0), *told[1:]), ((None, None), *told[1:]), ((True, 100), *told[1:]),
                      (("1", 100), *told[1:]), ((False, None), *told[1:])):
            self.wrong_paper("form", accept_deficits, NET, "T", value)
        for value in (((2, 100), *told[1:]), ((0, None), *told[1:]), ((1, 101), *told[1:]), ((1, None), *told[1:]),
                      ((1, "100"), *told[1:]), ((1, (100,)), *told[1:]), (told[0], (0, 0), *told[2:]),
                      (told[0], (0, False), *told[2:]), (told[0], (-1, None), *told[2:])):
            self.wrong_paper("entry", accept_deficits, NET, "T", value)
        net = net_of([("f", "A", "B", 1, 50)])
        self.assertIsNone(accept_deficits(net, "T", ((1, 1), (0, None))))
        self.wrong_paper("entry", accept_deficits, net, "T", ((1, True), (0, None)))
        for value in [*VALUES, *damaged(told)]:
            self.assertRaises(InterlineError, accept_deficits, NET, "T", value)

    def test_errors(self):
        for function, rest in ((deficits, ()), (rotation, ()), (accept_deficits, (None,))):
            self.asks_the_net_first(function, None, *rest)
            for value in (*VALUES, "X", "A", "F", ["T"], ("T",)):
                self.wrong_argument("type", function, NET, value, *rest)
            self.survives(function, (NET, "T", *rest), InterlineError)
        for function in (least_tails, refitted, swaps):
            self.asks_the_net_first(function)
            self.survives(function, (NET,), NetError)


class RotationTest(Case):

    def test_those_that_have_been_ready_longest_go_first(self):
        flights = [("a", "A", "B", 100, 160), ("b", "A", "B", 110, 150), ("c", "B", "A", 300, 350), ("d", "B", "A", 310, 360)]
        self.assertEqual(rotation(net_of(flights), "T"), (("a", "d"), ("b", "c")))
        # Of equal ones the row that was begun first.
        flights[1] = ("b", "A", "B", 110, 160)
        self.assertEqual(rotation(net_of(flights), "T"), (("a", "c"), ("b", "d")))

    def test_flights_of_one_departure_in_the_order_of_the_net(self):
        flights = [("z", "A", "B", 100, 150), ("b", "A", "B", 100, 140), ("c", "B", "A", 150, 200), ("d", "B", "A", 150, 200)]
        self.assertEqual(rotation(net_of(flights), "T"), (("z", "d"), ("b", "c")))
        self.assertEqual(rotation(net_of(flights[::-1]), "T"), (("b", "d"), ("z", "c")))
        net = net_of(flights, types=(("T", 9, 5),))
        self.assertEqual(rotation(net, "T"), (("z",), ("b", "c"), ("d",)))

    def test_rows_stand_as_they_were_begun(self):
        flights = [("a", "A", "B", 300, 350), ("b", "B", "A", 100, 150), ("c", "C", "A", 200, 250)]
        self.assertEqual(rotation(net_of(flights), "T"), (("b", "a"), ("c",)))

    def test_refitted(self):
        told = refitted(NET)
        self.assertEqual(told[4], (("T0_0", "T", ("F", "G", "J")), ("T1_0", "U", ("H", "I"))))
        self.assertEqual(told[:4] + told[5:], NET[:4] + NET[5:])
        net = there_and_back(31, (30, 40, 30, 31))
        self.assertEqual(refitted(net)[4], (("T0_0", "T", ("f0", "f3")), ("T0_1", "T", ("f1", "f2"))))
        for seed in range(120):
            net = random_net(seed, tails=7, longest=4, stations=3)
            told = refitted(net)
            self.assertIsNone(check(told))
            self.assertEqual(told[:4] + told[5:], net[:4] + net[5:])
            rows = [(f"T{place}_{number}", kind, row) for place, (kind, _, _) in enumerate(net[1])
                    for number, row in enumerate(rotation(net, kind))]
            self.assertEqual(told[4], tuple(rows))
            self.assertLessEqual(len(rows), 7)
            self.assertEqual(refitted(told), told)


class SwapsTest(Case):

    def tails(self, *rows, turn=0):
        """Flights there and back by several tails, two flights each, at the same hours."""
        flights = [(f"{name}{place}", "AB"[place % 2], "BA"[place % 2], 100 * place + later, 100 * place + later + 50)
                   for name, many, later in rows for place in range(many)]
        net = net_of(flights, types=(("T", 9, turn), ("U", 9, 0)))
        return with_part(net, 4, [(f"N{name}", "T", tuple(f"{name}{place}" for place in range(many)))
                                  for name, many, _ in rows])

    def test_swaps(self):
        net = self.tails(("a", 2, 0), ("b", 2, 5))
        told = ((0, 0, 1, 0), (0, 1, 1, 1))
        self.assertEqual(swaps(net), told)
        self.assertEqual(swapped(net, told[0])[4], (("Na", "T", ("b0", "b1")), ("Nb", "T", ("a0", "a1"))))
        self.assertEqual(swapped(net, (0, 1, 1, 1))[4], (("Na", "T", ("a0", "b1")), ("Nb", "T", ("b0", "a1"))))
        net = self.tails(("a", 2, 0), ("b", 2, 200))
        self.assertEqual(swaps(net), ((0, 0, 1, 0), (0, 2, 1, 0)))
        self.assertEqual(swapped(net, (0, 2, 1, 0))[4], (("Na", "T", ("a0", "a1", "b0", "b1")), ("Nb", "T", ())))

    def test_the_turn_in_swaps(self):
        # b1 departs 55 behind a0, and a1 45 behind b0.
        for turn, found in ((45, True), (46, False)):
            self.assertEqual((0, 1, 1, 1) in swaps(self.tails(("a", 2, 0), ("b", 2, 5), turn=turn)), found)

    def test_empty_rows_and_ends_of_rows(self):
        net = self.tails(("a", 2, 0), ("b", 0, 0))
        # The whole row, or its end, goes to the empty one.
        self.assertEqual(swaps(net), ((0, 0, 1, 0), (0, 1, 1, 0)))
        self.assertEqual(swapped(net, (0, 1, 1, 0))[4], (("Na", "T", ("a0",)), ("Nb", "T", ("a1",))))
        self.assertEqual(swaps(self.tails(("a", 0, 0), ("b", 0, 0))), ())
        # Where both rests are empty, nothing changes.
        self.wrong_argument("swap", swapped, net, (0, 2, 1, 0))
        self.assertEqual(swaps(with_part(net, 4, net[4][:1])), ())

    def test_types_in_swaps(self):
        net = self.tails(("a", 2, 0), ("b", 0, 0))
        net = with_part(net, 4, (net[4][0], ("Nb", "U", ())))
        self.assertEqual(swaps(net), ())

    def test_swaps_go_back_and_forth(self):
        for seed in range(12):
            net = random_net(seed, tails=5, longest=4, stations=3, span=100)
            told = told_swaps(net)
            self.assertEqual(swaps(net), tuple(swap for swap, _ in told))
            for swap, behind in told:
                self.assertEqual(swapped(net, swap), behind)
                self.assertIn(swap, swaps(behind))
                self.assertEqual(swapped(behind, swap), net)
        self.assertGreater(len(told), 1)

    def test_what_is_no_swap(self):
        net = self.tails(("a", 2, 0), ("b", 2, 5))
        for value in (None, 5, (), (0, 1, 1), (0, 1, 1, 1, 0), [0, 1, 1, 1], (1, 1, 0, 1), (0, 1, 0, 1), (0, 1, 2, 1),
                      (-1, 1, 1, 1), (0, 3, 1, 1), (0, 1, 1, 3), (0, -1, 1, 1), (0, 1, 1, -1), (0, 1, True, 1),
                      (False, 1, 1, 1), (0, 1, 1, True), ("0", 1, 1, 1), (0, 1, 1, None), (0, 2, 1, 2), (0, 0, 1, 1),
                      (0, 1, -1, 1), (0, 1, 10 ** 40, 1)):
            self.wrong_argument("swap", swapped, net, value)
        self.asks_the_net_first(swapped, None)
        self.survives(swapped, (net, (0, 1, 1, 1)), InterlineError)
        for value in VALUES:
            self.wrong_argument("swap", swapped, NET, value)

    def test_all_values_of_a_small_net(self):
        for seed in range(10):
            net = random_net(seed, tails=3, longest=3, stations=3, span=100)
            told = dict(told_swaps(net))
            numbers = [(a, b, c, d) for a in range(-1, 4) for b in range(-1, 5) for c in range(-1, 4) for d in range(-1, 5)]
            for value in random.Random(seed).sample(numbers, 300):
                if value in told:
                    self.assertEqual(swapped(net, value), told[value])
                else:
                    self.wrong_argument("swap", swapped, net, value)


if __name__ == "__main__":
    unittest.main()
