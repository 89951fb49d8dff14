"""Points 33 and 34: quotes."""

import unittest

from interline.errors import InterlineError, TooMany
from interline.fares import construct, price_table
from interline.inventory import available
from interline.journeys import journeys
from interline.quotes import accept_quote, quote
from tests.samples import NET, VALUES, Case, damaged, net_of, random_bookings, random_net
from tests.test_journeys import crowd

ASKED = ("A", "C", 0, 20160, 3)


def told_offer(net, bookings, cabin, rows):
    """The cheapest journey that may be sold, the first of equal ones."""
    found = []
    for place, journey in enumerate(rows):
        priced = construct(net, journey, cabin)
        if priced and all(available(net, bookings, flight, cabin) for flight in journey):
            found.append((priced[0], place, (priced[0], journey, priced[1])))
    return min(found)[2] if found else None


class QuoteTest(Case):

    def full(self, flight, many):
        return tuple((f"{flight}{place}", "Y", (flight,)) for place in range(many))

    def test_sample(self):
        # By D and by B the price is 90, and the journey by D stands first, for it arrives earlier.
        table = ((90, 1), None, (0, 0))
        self.assertEqual(quote(NET, (), "Y", *ASKED), (
            (90, ("H", "I"), ((2, "ac"),)), (table, ((90, 1), (40, 1), (0, 0)))))
        self.assertEqual(quote(NET, (), "C", *ASKED)[0], (300, ("H", "I"), ((2, "cc"),)))

    def test_full_flights(self):
        table = ((90, 1), (40, 1), (0, 0))
        told = quote(NET, self.full("H", 1), "Y", *ASKED)
        self.assertEqual(told, ((90, ("F", "G"), ((2, "ac"),)), ("H", table)))
        self.assertIsNone(accept_quote(NET, self.full("H", 1), "Y", *ASKED, told))
        self.wrong_paper("entry", accept_quote, NET, self.full("H", 1), "Y", *ASKED, (told[0], ("I", table)))
        told = quote(NET, self.full("H", 1) + self.full("G", 2), "Y", *ASKED)
        self.assertEqual(told, (None, ("H", "G")))

    def test_any_full_flight_may_be_named(self):
        bookings = self.full("F", 2) + self.full("G", 2) + self.full("I", 3)
        offer, paper = quote(NET, bookings, "Y", *ASKED)
        self.assertIsNone(offer)
        for first in ("I",):
            for second in ("F", "G"):
                self.assertIsNone(accept_quote(NET, bookings, "Y", *ASKED, (None, (first, second))))
        for first, second in (("H", "F"), ("I", "H"), ("I", "J"), ("F", "I"), ("I", ""), ("I", None), ("I", ("F",)),
                              ("I", price_table(NET, ("F", "G"), "Y"))):
            self.wrong_paper("entry", accept_quote, NET, bookings, "Y", *ASKED, (None, (first, second)))

    def test_a_flight_that_is_full_for_one_class_only(self):
        self.assertEqual(quote(NET, self.full("H", 1), "C", *ASKED)[0], (300, ("H", "I"), ((2, "cc"),)))

    def test_no_construction(self):
        told = quote(NET, (), "C", "B", "A", 0, 20160, 3)
        self.assertEqual(told, (None, ((None, None, (0, 0)),)))
        self.assertIsNone(accept_quote(NET, (), "C", "B", "A", 0, 20160, 3, told))
        # No fare leads from C to A, but J is full for class Y, and then it must be named.
        self.assertEqual(quote(NET, (), "Y", "B", "A", 0, 20160, 3), (None, ("J",)))
        self.wrong_paper("entry", accept_quote, NET, (), "Y", "B", "A", 0, 20160, 3, told)

    def test_no_journeys(self):
        self.assertEqual(quote(NET, (), "Y", "D", "B", 0, 20160, 3), (None, ()))
        self.assertIsNone(accept_quote(NET, (), "Y", "D", "B", 0, 20160, 3, (None, ())))
        self.wrong_paper("offer", accept_quote, NET, (), "Y", "D", "B", 0, 20160, 3, (0, ()))
        self.wrong_paper("form", accept_quote, NET, (), "Y", "D", "B", 0, 20160, 3, (None, (None,)))

    def test_the_first_of_equal_prices(self):
        flights = [("z", "A", "B", 0, 50), ("y", "A", "B", 0, 40), ("x", "A", "B", 0, 40)]
        net = net_of(flights, [("f", "A", "B", "Y", 7, 0, 0, 0), ("g", "A", "B", "Y", 7, 0, 0, 0)])
        self.assertEqual(quote(net, (), "Y", "A", "B", 0, 100, 0)[0], (7, ("x",), ((1, "f"),)))
        self.assertEqual(quote(net, self.full("x", 9), "Y", "A", "B", 0, 100, 0)[0], (7, ("y",), ((1, "f"),)))

    def test_the_cheapest_need_not_be_the_first(self):
        flights = [("F", "A", "B", 0, 40), ("G", "A", "C", 0, 40), ("H", "C", "B", 80, 100)]
        net = net_of(flights, [("f", "A", "B", "Y", 7, 0, 0, 0), ("g", "A", "C", "Y", 2, 0, 0, 0),
                               ("h", "C", "B", "Y", 4, 0, 0, 0)])
        self.assertEqual(quote(net, (), "Y", "A", "B", 0, 100, 1)[0], (6, ("G", "H"), ((1, "g"), (1, "h"))))
        self.assertEqual(quote(net, (), "Y", "A", "B", 0, 100, 0)[0], (7, ("F",), ((1, "f"),)))

    def test_against_the_words(self):
        offers = 0
        for seed in range(60):
            net = random_net(seed, stations=3, tails=4, longest=5, fares=30)
            bookings = random_bookings(seed, net, 4)
            for start, end, latest, stops in (("A", "B", 20160, 3), ("B", "C", 300, 2), ("C", "A", 20160, 1)):
                asked = (start, end, 0, latest, stops)
                rows = journeys(net, *asked)
                for cabin in net[2]:
                    offer, paper = quote(net, bookings, cabin, *asked)
                    self.assertEqual(offer, told_offer(net, bookings, cabin, rows))
                    self.assertEqual(len(paper), len(rows))
                    for journey, entry in zip(rows, paper):
                        full = [name for name in journey if available(net, bookings, name, cabin) == 0]
                        self.assertTrue(entry in full or not full and entry == price_table(net, journey, cabin))
                    self.assertIsNone(accept_quote(net, bookings, cabin, *asked, (offer, paper)))
                    offers += offer is not None
        self.assertGreater(offers, 40)


class AcceptQuoteTest(Case):

    def accepts(self, told):
        return accept_quote(NET, (), "Y", *ASKED, told)

    def test_forms(self):
        offer, paper = quote(NET, (), "Y", *ASKED)
        for value in (*VALUES, (offer,), (offer, paper, ()), [offer, paper], (offer, list(paper)), (offer, None),
                      (offer, paper[:1]), (offer, paper + ((),)), (offer, ()), (offer, "ab"), paper):
            if not (isinstance(value, tuple) and len(value) == 2 and isinstance(value[1], tuple)
                    and len(value[1]) == 2):
                self.wrong_paper("form", self.accepts, value)

    def test_entries_and_offers(self):
        offer, paper = quote(NET, (), "Y", *ASKED)
        self.assertIsNone(self.accepts((offer, paper)))
        for place in range(2):
            for entry in [*damaged(paper[place]), "H", "F", None, 5]:
                wrong = paper[:place] + (entry,) + paper[place + 1:]
                self.wrong_paper("entry", self.accepts, (offer, wrong))
                self.wrong_paper("entry", self.accepts, (None, wrong))
        for value in [*damaged(offer), *VALUES, (90, ("F", "G"), ((2, "ac"),)), (90, ("H", "I"), ((2, "cc"),))]:
            self.wrong_paper("offer", self.accepts, (value, paper))

    def test_booleans_are_no_integers(self):
        net = net_of([("F", "A", "B", 0, 40)], [("f", "A", "B", "Y", 1, 0, 0, 0)])
        told = quote(net, (), "Y", "A", "B", 0, 100, 0)
        self.assertEqual(told, ((1, ("F",), ((1, "f"),)), (((1, 1), (0, 0)),)))
        asked = (net, (), "Y", "A", "B", 0, 100, 0)
        self.wrong_paper("offer", accept_quote, *asked, ((True, ("F",), ((1, "f"),)), told[1]))
        self.wrong_paper("offer", accept_quote, *asked, ((1, ("F",), ((True, "f"),)), told[1]))
        self.wrong_paper("entry", accept_quote, *asked, (told[0], (((1, True), (0, 0)),)))
        self.wrong_paper("entry", accept_quote, *asked, (told[0], (((1, 1), (0, False)),)))


class QuoteArgumentsTest(Case):

    def test_wrong_arguments_in_their_order(self):
        good = ((), "Y", "A", "C", 0, 500, 3)
        reasons = ("bookings", "class", "start", "end", "earliest", "latest", "stops")
        for function, rest in ((quote, ()), (accept_quote, (None,))):
            self.asks_the_net_first(function, *(None,) * 7, *rest)
            for place, reason in enumerate(reasons):
                for value in (None, True, "X", -1, 20161, [], ("A",), 10 ** 40):
                    self.wrong_argument(reason, function, NET, *good[:place], value, *good[place + 1:], *rest)
                    self.wrong_argument(reason, function, NET, *good[:place], value, *(None,) * (6 - place), *rest)
            self.wrong_argument("end", function, NET, (), "Y", "A", "A", None, None, None, *rest)
            self.survives(lambda *told: function(NET, *told), good + rest, InterlineError)

    def test_too_many_journeys(self):
        net = net_of(crowd((10, 10, 5)), [("f", "A", "D", "Y", 1, 3, 0, 0)])
        for function, rest in ((quote, ()), (accept_quote, (None,))):
            self.refused(TooMany, ("journeys",), function, net, (), "Y", "A", "D", 0, 20160, 3, *rest)
        net = net_of(crowd((10, 10, 4)), [("f", "A", "D", "Y", 1, 3, 0, 0)])
        offer, paper = quote(net, (), "Y", "A", "D", 0, 20160, 3)
        self.assertEqual((offer, len(paper)), ((1, ("f00", "f10", "f20"), ((3, "f"),)), 400))
        self.assertIsNone(accept_quote(net, (), "Y", "A", "D", 0, 20160, 3, (offer, paper)))


if __name__ == "__main__":
    unittest.main()
