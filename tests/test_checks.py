"""Points 1, 3 and 12 to 16: the rules of nets."""

import unittest

from interline.checks import check
from interline.errors import NetError
from tests.samples import NET, VALUES, Case, nested, random_net, with_part, with_row, with_value

STATION, TYPE, CABIN, FLIGHT, TAIL, FARE = range(6)


class CheckTest(Case):

    def fails(self, net, path, reason):
        self.refused(NetError, (path, reason), check, net)

    def value_fails(self, part, place, field, value, reason):
        self.fails(with_value(NET, part, place, field, value), (part, place), reason)

    def value_passes(self, part, place, field, value):
        self.assertIsNone(check(with_value(NET, part, place, field, value)))

    def test_nets_that_keep_the_rules(self):
        self.assertIsNone(check(NET))
        self.assertIsNone(check(((), (), ("Y",), (), (), ())))
        for seed in range(60):
            self.assertIsNone(check(random_net(seed, classes=1 + seed % 3)))

    def test_no_nets_at_all(self):
        for value in (*VALUES, [], list(NET), {}, 1.5, b"", NET[:5], NET + ((),), (None,) * 6, ((),) * 5, [()] * 6):
            self.fails(value, (), "shape")

    def test_shape_of_parts(self):
        for part in range(6):
            for value in (None, "AB", 3, True, [], list(NET[part]), {}, nested(90), (None,), (7,), ((),), (True,)):
                self.fails(NET[:part] + (value,) + NET[part + 1:], (), "shape")
            if part != CABIN:
                self.fails(with_part(NET, part, NET[part] + ("A",)), (), "shape")
        self.fails(with_part(NET, CABIN, ("Y", ("C",))), (), "shape")

    def test_shape_of_rows(self):
        for part in (STATION, TYPE, FLIGHT, TAIL, FARE):
            for place, row in enumerate(NET[part]):
                for value in (row[:-1], row + (0,), list(row), None, ()):
                    self.fails(with_row(NET, part, place, value), (), "shape")
                for field, value in enumerate(row):
                    for other in (None, True, False, (), [], ("A",), (1, "A"), (None,), 1.0, (True,), b"A"):
                        good = isinstance(value, tuple) and other == ()
                        good = good or (part == TAIL and field == 2 and other == ("A",))
                        if not good:
                            self.fails(with_value(NET, part, place, field, other), (), "shape")
                    self.fails(with_value(NET, part, place, field, 1 if not isinstance(value, int) else "A"), (), "shape")
        self.fails(with_value(NET, FLIGHT, 0, 7, [3, 2]), (), "shape")
        self.fails(with_value(NET, FLIGHT, 0, 7, (3, "2")), (), "shape")
        self.fails(with_value(NET, TAIL, 0, 2, ("F", 1)), (), "shape")
        self.fails(with_value(NET, TAIL, 0, 2, ["F", "G", "J"]), (), "shape")

    def test_shape_goes_ahead_of_all(self):
        net = with_part(NET, STATION, (("9", 5000, 5000),) * 13)
        self.fails(with_row(net, FARE, 3, ("cc", "A", "C", "C", 300, 3, 0, True)), (), "shape")
        self.fails(net, (0,), "many")

    def test_numbers_of_rows(self):
        rows = (
            [(f"S{place}", 0, 0) for place in range(13)],
            [(f"T{place}", 1, 0) for place in range(5)],
            [f"C{place}" for place in range(7)],
            [(f"F{place}", "S0", "S1", place, place + 1, "T0", 1, (1,) * 6) for place in range(41)],
            [(f"N{place}", "T0", ()) for place in range(13)],
            [(f"f{place}", "S0", "S1", "C0", 1, 1, 1, 1) for place in range(41)],
        )
        # Four flights at a time stand behind one another in a row there and back.
        flights = [(f"F{place}", *(("S0", "S1") if place % 2 == 0 else ("S1", "S0")), place, place + 1, "T0", 1,
                    (1,) * 6) for place in range(40)]
        tails = [(f"N{place}", "T0", tuple(f"F{at}" for at in range(40)) if place == 0 else ())
                 for place in range(12)]
        most = (rows[0][:12], rows[1][:4], rows[2][:6], flights, tails, rows[5][:40])
        full = tuple(tuple(part) for part in most)
        self.assertIsNone(check(full))
        for part in range(6):
            self.fails(with_part(full, part, rows[part]), (part,), "many")
            if part < 5:
                later = with_part(with_part(full, part, rows[part]), part + 1, rows[part + 1])
                self.fails(later, (part,), "many")

    def test_no_class(self):
        self.fails(((), (), (), (), (), ()), (2,), "many")
        self.fails(with_part(NET, CABIN, ()), (2,), "many")
        many = with_part(with_part(NET, CABIN, ()), FLIGHT, NET[3] * 9)
        self.fails(many, (2,), "many")
        self.fails(with_part(many, TYPE, NET[1] * 3), (1,), "many")

    def test_numbers_go_ahead_of_rows(self):
        net = with_value(NET, STATION, 0, 1, 5000)
        self.fails(net, (0, 0), "range")
        self.fails(with_part(net, FARE, NET[5] * 11), (5,), "many")

    def test_names(self):
        for part in range(6):
            for place in range(len(NET[part])):
                for name in ("", "9", "_a", "a-b", "a b", " a", "a\n", "x" * 13, "\u00e9", "a\u00e9", "(", "a.", "-1",
                             "A\x00", "x" * 19000):
                    row = name if part == CABIN else (name,) + NET[part][place][1:]
                    self.fails(with_row(NET, part, place, row), (part, place), "name")
        for name in ("z", "Z_9", "x" * 12, "a__", "QQQQQQQQQQQ_"):
            self.value_passes(FARE, 1, 0, name)

    def test_names_twice(self):
        for part in range(6):
            for place in range(1, len(NET[part])):
                first = NET[part][0]
                row = first if part == CABIN else (first[0],) + NET[part][place][1:]
                self.fails(with_row(NET, part, place, row), (part, place), "twice")

    def test_parts_may_share_names(self):
        net = (("A", 0, 0), ("B", 0, 0)), (("A", 1, 0),), ("A",), (("A", "A", "B", 0, 1, "A", 1, (1,)),)
        self.assertIsNone(check(net + ((("A", "A", ("A",)),), (("A", "A", "B", "A", 1, 1, 1, 1),))))

    def test_the_name_goes_ahead_in_its_row(self):
        self.fails(with_row(NET, STATION, 1, ("A", 5000, 0)), (0, 1), "twice")
        self.fails(with_row(NET, STATION, 1, ("9", 5000, 0)), (0, 1), "name")
        self.fails(with_row(NET, FLIGHT, 1, ("F", "x", "x", -1, -1, "x", 0, ())), (3, 1), "twice")

    def test_stations(self):
        for zone in (-720, 840, 0):
            self.value_passes(STATION, 3, 1, zone)
        for zone in (-721, 841, 10 ** 30, -10 ** 30):
            self.value_fails(STATION, 3, 1, zone, "range")
        for least in (0, 600):
            self.value_passes(STATION, 3, 2, least)
        for least in (-1, 601):
            self.value_fails(STATION, 3, 2, least, "range")

    def test_types(self):
        for seats in (1, 500):
            self.value_passes(TYPE, 0, 1, seats)
        for seats in (0, -1, 501):
            self.value_fails(TYPE, 0, 1, seats, "range")
        self.value_passes(TYPE, 1, 2, 0)
        net = with_part(NET, TYPE, NET[1] + (("V", 1, 600),))
        self.assertIsNone(check(net))
        for turn in (-1, 601):
            self.value_fails(TYPE, 0, 2, turn, "range")

    def test_stations_of_flights(self):
        for field in (1, 2):
            for name in ("X", "", "a", "T", "F"):
                self.value_fails(FLIGHT, 1, field, name, "station")
        self.fails(with_row(NET, FLIGHT, 1, ("G", "X", "X", -1, -1, "x", 0, ())), (3, 1), "station")
        self.fails(with_row(NET, FLIGHT, 1, ("G", "B", "B", -1, -1, "x", 0, ())), (3, 1), "same")

    def test_times_of_flights(self):
        self.value_passes(FLIGHT, 0, 3, 0)
        self.value_passes(FLIGHT, 4, 4, 20160)
        self.value_passes(FLIGHT, 4, 3, 599)
        for depart in (-1, 600, 601, 20160):
            self.value_fails(FLIGHT, 4, 3, depart, "times")
        for arrive in (-1, 0, 400, 399, 20161):
            self.value_fails(FLIGHT, 4, 4, arrive, "times")
        self.fails(with_row(NET, FLIGHT, 1, ("G", "B", "C", 300, 300, "x", 0, ())), (3, 1), "times")

    def test_types_of_flights(self):
        for name in ("X", "", "t", "A"):
            self.value_fails(FLIGHT, 1, 5, name, "type")
        self.fails(with_row(NET, FLIGHT, 1, ("G", "B", "C", 200, 300, "x", 0, ())), (3, 1), "type")

    def test_distances(self):
        for distance in (1, 20000):
            self.value_passes(FLIGHT, 1, 6, distance)
        for distance in (0, -1, 20001):
            self.value_fails(FLIGHT, 1, 6, distance, "range")
        self.fails(with_row(NET, FLIGHT, 1, ("G", "B", "C", 200, 300, "T", 0, ())), (3, 1), "range")

    def test_limits(self):
        for limits in ((0, 0), (999, 999), (999, 0), (5, 5)):
            self.value_passes(FLIGHT, 1, 7, limits)
        for limits in ((), (1,), (1, 1, 1), (1000, 1), (1000, 1000), (1, -1), (1, 2), (-1, -2), (0,) * 9000):
            self.value_fails(FLIGHT, 1, 7, limits, "limits")

    def test_types_of_tails(self):
        for name in ("X", "", "t"):
            self.value_fails(TAIL, 0, 1, name, "type")
        self.fails(with_row(NET, TAIL, 0, ("N1", "X", ("X",))), (4, 0), "type")

    def test_flights_of_tails(self):
        self.value_fails(TAIL, 0, 2, ("F", "X"), "flight")
        self.value_fails(TAIL, 0, 2, ("f",), "flight")
        self.value_fails(TAIL, 0, 2, ("F", "F"), "flown")
        self.value_fails(TAIL, 1, 2, ("F",), "flown")
        self.value_fails(TAIL, 1, 2, ("H", "I", "J"), "flown")
        self.value_fails(TAIL, 0, 2, ("H",), "kind")
        self.value_fails(TAIL, 0, 2, ("G", "F"), "place")
        self.value_fails(TAIL, 0, 2, ("F", "J"), "place")

    def test_rows_may_not_share_flights_whichever_comes_first(self):
        net = with_part(NET, TAIL, (NET[4][0], NET[4][1], ("N3", "T", ("F",))))
        self.fails(net, (4, 2), "flown")
        self.fails(with_part(NET, TAIL, (("N3", "T", ("F",)), NET[4][0], NET[4][1])), (4, 1), "flown")

    def test_turns(self):
        for depart, good in ((180, True), (181, True), (179, False), (160, False), (20, False)):
            net = with_value(NET, FLIGHT, 1, 3, depart)
            if good:
                self.assertIsNone(check(net))
            else:
                self.fails(net, (4, 0), "turn")
        self.fails(with_value(NET, TYPE, 0, 2, 41), (4, 0), "turn")
        self.assertIsNone(check(with_value(NET, TYPE, 0, 2, 40)))
        # Type U needs no time between its flights.
        self.assertIsNone(check(with_value(NET, FLIGHT, 3, 3, 180)))
        self.fails(with_value(NET, FLIGHT, 3, 3, 179), (4, 1), "turn")

    def test_order_within_rows_of_tails(self):
        # For each flight in turn all is asked: G is in the wrong place before X is no flight.
        self.value_fails(TAIL, 0, 2, ("G", "G", "X"), "flown")
        self.value_fails(TAIL, 0, 2, ("G", "F", "X"), "place")
        self.value_fails(TAIL, 0, 2, ("F", "X", "F"), "flight")
        self.value_fails(TAIL, 1, 2, ("F", "X"), "flown")
        self.value_fails(TAIL, 0, 2, ("F", "H"), "kind")
        # I starts where J does not end, and departs before it arrives: the type goes first, then the place.
        net = with_value(NET, FLIGHT, 3, 5, "T")
        self.fails(with_value(net, TAIL, 0, 2, ("F", "G", "J", "I")), (4, 0), "place")

    def test_fares(self):
        for field in (1, 2):
            for name in ("X", "", "a"):
                self.value_fails(FARE, 2, field, name, "station")
        self.value_fails(FARE, 2, 1, "C", "same")
        for name in ("X", "", "y", "A"):
            self.value_fails(FARE, 2, 3, name, "class")
        for field, most in ((4, 1000000), (5, 3), (6, 1000000), (7, 100)):
            for value in (0, most):
                self.value_passes(FARE, 2, field, value)
            for value in (-1, most + 1):
                self.value_fails(FARE, 2, field, value, "range")
        self.fails(with_row(NET, FARE, 2, ("ac", "X", "X", "x", -1, -1, -1, -1)), (5, 2), "station")
        self.fails(with_row(NET, FARE, 2, ("ac", "A", "A", "x", -1, -1, -1, -1)), (5, 2), "same")
        self.fails(with_row(NET, FARE, 2, ("ac", "A", "B", "x", -1, -1, -1, -1)), (5, 2), "class")

    def test_flights_that_are_alone(self):
        self.value_fails_alone(0, ("G", "J"), 0)
        self.value_fails_alone(0, ("F", "G"), 4)
        self.value_fails_alone(1, (), 2)
        self.value_fails_alone(1, ("H",), 3)
        self.fails(with_part(NET, TAIL, ()), (3, 0), "alone")

    def value_fails_alone(self, tail, row, place):
        self.fails(with_value(NET, TAIL, tail, 2, row), (3, place), "alone")

    def test_rows_go_ahead_of_flights_that_are_alone(self):
        net = with_part(NET, TAIL, ())
        self.fails(with_value(net, FARE, 3, 4, -1), (5, 3), "range")

    def test_the_first_of_two_faults(self):
        faults = (
            (STATION, 0, 1, 5000, "range"), (STATION, 3, 2, -1, "range"), (TYPE, 0, 1, 0, "range"),
            (FLIGHT, 0, 6, 0, "range"), (FLIGHT, 4, 7, (1, 2), "limits"), (TAIL, 0, 1, "X", "type"),
            (TAIL, 1, 2, ("X",), "flight"), (FARE, 0, 1, "X", "station"), (FARE, 3, 7, 101, "range"),
        )
        for place, (part, row, field, value, reason) in enumerate(faults):
            net = with_value(NET, part, row, field, value)
            for part_2, row_2, field_2, value_2, _ in faults[place + 1:]:
                self.fails(with_value(net, part_2, row_2, field_2, value_2), (part, row), reason)

    def test_wide_values(self):
        self.fails(with_part(NET, STATION, (("A", 0, 0),) * 4000), (0,), "many")
        self.fails(with_part(NET, CABIN, ("A",) * 9000), (2,), "many")
        self.value_fails(TAIL, 0, 2, ("F",) * 19000, "flown")


if __name__ == "__main__":
    unittest.main()
