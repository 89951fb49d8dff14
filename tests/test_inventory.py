"""Points 31 and 32: nested limits."""

import unittest

from interline.errors import InterlineError
from interline.inventory import available, group, over, sold
from tests.samples import NET, VALUES, Case, net_of, random_bookings, random_net
from tests.test_broken import WRONG_BOOKINGS

THREE = ("C", "Y", "Z")


def three(limits, *more):
    """A net of three classes with a flight F of these limits, and perhaps a flight G that can follow it."""
    flights = [("F", "A", "B", 0, 60, "T", limits)]
    flights += [("G", "B", "C", 100, 160, "T", other) for other in more]
    return net_of(flights, classes=THREE)


def people(text, journey=("F",)):
    """Bookings of these classes, one for each letter."""
    return tuple((f"{place}", cabin, journey) for place, cabin in enumerate(text))


def told_left(net, bookings, flight, cabin):
    """What point 31 tells, word for word."""
    row = [one for one in net[3] if one[0] == flight][0]
    rooms = []
    for rank in range(net[2].index(cabin) + 1):
        many = sum(1 for _, own, journey in bookings if flight in journey and net[2].index(own) >= rank)
        rooms.append(max(row[7][rank] - many, 0))
    return min(rooms)


class InventoryTest(Case):

    def rooms(self, net, bookings, flight="F"):
        return tuple(available(net, bookings, flight, cabin) for cabin in net[2])

    def test_nested_limits_by_hand(self):
        net = three((5, 3, 1))
        for text, told in (("", (5, 3, 1)), ("C", (4, 3, 1)), ("Y", (4, 2, 1)), ("Z", (4, 2, 0)),
                           ("CCC", (2, 2, 1)), ("CCCC", (1, 1, 1)), ("CCCCC", (0, 0, 0)), ("YYY", (2, 0, 0)),
                           ("YY", (3, 1, 1)), ("ZYY", (2, 0, 0)), ("CZYY", (1, 0, 0)), ("YZ", (3, 1, 0))):
            self.assertEqual(self.rooms(net, people(text)), told)
            self.assertEqual(over(net, people(text)), ())

    def test_equal_and_zero_limits(self):
        self.assertEqual(self.rooms(three((2, 2, 2)), ()), (2, 2, 2))
        self.assertEqual(self.rooms(three((2, 2, 2)), people("Z")), (1, 1, 1))
        self.assertEqual(self.rooms(three((2, 0, 0)), ()), (2, 0, 0))
        self.assertEqual(self.rooms(three((0, 0, 0)), ()), (0, 0, 0))
        self.assertEqual(self.rooms(three((999, 999, 999)), people("CYZ")), (996, 996, 996))

    def test_more_bookings_than_the_limits_allow(self):
        net = three((5, 3, 1))
        self.assertEqual(self.rooms(net, people("ZZZ")), (2, 0, 0))
        self.assertEqual(over(net, people("ZZZ")), (("F", "Z", 2),))
        self.assertEqual(self.rooms(net, people("YYYYY")), (0, 0, 0))
        self.assertEqual(over(net, people("YYYYY")), (("F", "Y", 2),))
        self.assertEqual(over(net, people("CCCCCC")), (("F", "C", 1),))
        self.assertEqual(over(net, people("CZZYYYY")), (("F", "C", 2), ("F", "Y", 3), ("F", "Z", 1)))
        # A room is never less than 0, so what is over in a lower class does not count for a higher one.
        self.assertEqual(self.rooms(net, people("ZZZZ")), (1, 0, 0))

    def test_over_in_the_orders_of_the_net(self):
        net = three((1, 1, 0), (0, 0, 0))
        bookings = people("ZZ", ("F", "G"))
        self.assertEqual(over(net, bookings), (("F", "C", 1), ("F", "Y", 1), ("F", "Z", 2),
                                               ("G", "C", 2), ("G", "Y", 2), ("G", "Z", 2)))

    def test_sold(self):
        bookings = (("a", "Y", ("F", "G")), ("b", "C", ("F",)), ("c", "Y", ("F", "G", "J")), ("d", "C", ("H", "I")))
        self.assertEqual(sold(NET, bookings), ((1, 2), (0, 2), (1, 0), (1, 0), (0, 1)))
        self.assertEqual(sold(NET, ()), ((0, 0),) * 5)
        self.assertEqual(sold(((), (), ("Y",), (), (), ()), ()), ())

    def test_group(self):
        net = three((5, 3, 1), (4, 4, 0))
        self.assertEqual([group(net, (), ("F", "G"), cabin) for cabin in THREE], [4, 3, 0])
        self.assertEqual([group(net, (), ("F",), cabin) for cabin in THREE], [5, 3, 1])
        self.assertEqual([group(net, (), ("G",), cabin) for cabin in THREE], [4, 4, 0])
        self.assertEqual([group(net, people("CC", ("G",)), ("F", "G"), cabin) for cabin in THREE], [2, 2, 0])
        self.assertEqual([group(net, people("YYYYYY"), ("F", "G"), cabin) for cabin in THREE], [0, 0, 0])

    def test_against_the_words(self):
        for seed in range(60):
            net = random_net(seed, classes=1 + seed % 3)
            bookings = random_bookings(seed, net, 20)
            numbers = []
            beyond = []
            for row in net[3]:
                here = [cabin for _, cabin, journey in bookings if row[0] in journey]
                numbers.append(tuple(here.count(cabin) for cabin in net[2]))
                for rank, cabin in enumerate(net[2]):
                    self.assertEqual(available(net, bookings, row[0], cabin), told_left(net, bookings, row[0], cabin))
                    many = sum(numbers[-1][rank:])
                    if many > row[7][rank]:
                        beyond.append((row[0], cabin, many - row[7][rank]))
            self.assertEqual(sold(net, bookings), tuple(numbers))
            self.assertEqual(over(net, bookings), tuple(beyond))
            for _, cabin, journey in bookings:
                told = min(told_left(net, bookings, flight, cabin) for flight in journey)
                self.assertEqual(group(net, bookings, journey, cabin), told)

    def test_number_of_bookings(self):
        many = people("Y" * 60)
        self.assertEqual(sold(NET, many)[0], (0, 60))
        self.assertEqual(over(NET, many)[:2], (("F", "C", 57), ("F", "Y", 58)))
        for function, rest in ((sold, ()), (over, ()), (available, ("F", "Y")), (group, (("F",), "Y"))):
            function(NET, many, *rest)
            self.wrong_argument("bookings", function, NET, people("Y" * 61), *rest)

    def test_order_of_the_errors(self):
        for function, rest in ((sold, ()), (over, ()), (available, (None, None)), (group, (None, None))):
            self.asks_the_net_first(function, None, *rest)
            for value in WRONG_BOOKINGS:
                self.wrong_argument("bookings", function, NET, value, *rest)
            self.survives(lambda *told: function(NET, *told), ((), *rest), InterlineError)
        for value in VALUES:
            if value not in ("F", ("F",)):
                self.wrong_argument("flight", available, NET, (), value, None)
                self.wrong_argument("journey", group, NET, (), value, None)
            if value != "Y":
                self.wrong_argument("class", available, NET, (), "F", value)
                self.wrong_argument("class", group, NET, (), ("F",), value)


if __name__ == "__main__":
    unittest.main()
