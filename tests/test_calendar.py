"""Points 17 to 19: local times."""

import unittest

from interline.calendar import board, local_text, local_time
from interline.errors import ArgumentError
from tests.samples import NET, VALUES, Case, net_of, random_net

ZONES = (("W", -720, 0), ("A", -90, 30), ("Z", 0, 0), ("P", 1, 0), ("E", 840, 0))
CLOCKS = (ZONES, (), ("Y",), (), (), ())


class LocalTimesTest(Case):

    def test_examples(self):
        net = ((("A", -90, 30),), (), ("Y",), (), (), ())
        self.assertEqual((local_text(net, "A", 0), local_time(net, "A", "-1 22 30")), ("-1 22 30", 0))

    def test_texts_at_both_sides_of_midnight(self):
        for station, time, text in (
                ("Z", 0, "0 00 00"), ("Z", -1, "-1 23 59"), ("Z", 1439, "0 23 59"), ("Z", 1440, "1 00 00"),
                ("Z", 59, "0 00 59"), ("Z", 60, "0 01 00"), ("Z", -1440, "-1 00 00"), ("Z", -1441, "-2 23 59"),
                ("P", -1, "0 00 00"), ("P", -2, "-1 23 59"), ("P", 1439, "1 00 00"),
                ("W", 0, "-1 12 00"), ("W", 719, "-1 23 59"), ("W", 720, "0 00 00"),
                ("E", 0, "0 14 00"), ("E", 599, "0 23 59"), ("E", 600, "1 00 00"), ("E", -840, "0 00 00"),
                ("E", -841, "-1 23 59"), ("Z", 14400, "10 00 00"), ("Z", 607, "0 10 07")):
            self.assertEqual(local_text(CLOCKS, station, time), text)
            self.assertEqual(local_time(CLOCKS, station, text), time)

    def test_texts_are_read_back(self):
        for station, _, _ in ZONES:
            for time in range(-20160, 40321, 97):
                self.assertEqual(local_time(CLOCKS, station, local_text(CLOCKS, station, time)), time)

    def test_range_of_times(self):
        self.assertEqual(local_text(CLOCKS, "Z", -20160), "-14 00 00")
        self.assertEqual(local_text(CLOCKS, "Z", 40320), "28 00 00")
        for time in (-20161, 40321, 10 ** 4400, True, False, None, "0", (), (0,), 1.0):
            self.wrong_argument("time", local_text, CLOCKS, "Z", time)

    def test_days_of_texts_are_numerals(self):
        for text, day in (("0 00 00", 0), ("999999999 00 00", 999999999), ("-999999999 00 00", -999999999)):
            self.assertEqual(local_time(CLOCKS, "P", text), 1440 * day - 1)

    def test_values_that_are_no_such_texts(self):
        for text in ("", " ", "0", "0 00", "0 00 00 ", " 0 00 00", "0  00 00", "0 00 00 00", "0 0 00", "0 00 0",
                     "0 000 00", "0 00 000", "00 00 00", "-0 00 00", "01 00 00", "+1 00 00", "1000000000 00 00",
                     "a 00 00", "0 aa 00", "0 00 aa", "0 24 00", "0 99 00", "0 00 60", "0 -1 00", "0 00 -1",
                     "0 +1 00", "0 1_ 00", "0\t00 00", "0\n00 00", "0 00 00\n", "0 00:00", "0 \u0661\u0661 00",
                     "\u0661 00 00", "- 00 00", "--1 00 00", "0 1\u00b2 00", "A 00 00", "0 .1 00"):
            self.wrong_argument("time", local_time, CLOCKS, "Z", text)
        for value in (*VALUES, ["0 00 00"], b"0 00 00", ("0 00 00",), ("0", "00", "00")):
            self.wrong_argument("time", local_time, CLOCKS, "Z", value)

    def test_errors_in_their_order(self):
        for function in (local_text, local_time, board):
            self.asks_the_net_first(function, None, None)
            for station in (*VALUES, "Q", "z", ["Z"]):
                if station != "A":
                    self.wrong_argument("station", function, CLOCKS, station, None)
            for value in VALUES:
                for station in ("A", value):
                    try:
                        function(CLOCKS, station, value)
                    except ArgumentError:
                        pass


class BoardTest(Case):

    def test_board(self):
        self.assertEqual(board(NET, "A", 0), ((160, "depart", "F"), (160, "depart", "H"), (660, "arrive", "J")))
        self.assertEqual(board(NET, "B", 0), ((160, "arrive", "F"), (200, "depart", "G")))
        self.assertEqual(board(NET, "C", 0), ((200, "arrive", "I"), (210, "arrive", "G"), (310, "depart", "J")))
        self.assertEqual(board(NET, "D", 0), ((1020, "arrive", "H"), (1040, "depart", "I")))
        for day in (-1, 1, 2, 10 ** 40, -10 ** 40):
            self.assertEqual(board(NET, "B", day), ())

    def test_both_sides_of_midnight(self):
        stations = (("E", 840, 0), ("W", -720, 0))
        flights = (("a", "E", "W", 599, 719), ("b", "E", "W", 600, 720), ("d", "W", "E", 100, 599),
                   ("c", "W", "E", 100, 600))
        net = net_of(flights, stations=stations)
        self.assertEqual(board(net, "E", 0), ((1439, "arrive", "d"), (1439, "depart", "a")))
        self.assertEqual(board(net, "E", 1), ((0, "arrive", "c"), (0, "depart", "b")))
        self.assertEqual(board(net, "W", -1), ((820, "depart", "c"), (820, "depart", "d"), (1439, "arrive", "a")))
        self.assertEqual(board(net, "W", 0), ((0, "arrive", "b"),))

    def test_all_boards_together(self):
        for seed in range(20):
            net = random_net(seed)
            zones = {name: zone for name, zone, _ in net[0]}
            found = [(1440 * day + minute - zones[name], word, name, flight)
                     for name in zones for day in range(-2, 17) for minute, word, flight in board(net, name, day)]
            told = [(row[3], "depart", row[1], row[0]) for row in net[3]]
            told += [(row[4], "arrive", row[2], row[0]) for row in net[3]]
            self.assertEqual(sorted(found), sorted(told))
            for name in zones:
                for day in range(-2, 3):
                    rows = board(net, name, day)
                    self.assertEqual(rows, tuple(sorted(rows)))
                    self.assertTrue(all(0 <= row[0] < 1440 for row in rows))

    def test_wrong_days(self):
        for day in (None, True, False, "0", (), (0,), [0], 1.0):
            self.wrong_argument("day", board, NET, "A", day)


if __name__ == "__main__":
    unittest.main()
