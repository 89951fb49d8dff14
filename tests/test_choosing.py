"""Points 35 to 41: requests for a flight, and offers over all flights."""

import itertools
import random
import unittest

from interline.choosing import accept_choice, accept_sales, choose, greatest_sales
from interline.errors import InterlineError, PaperError, TooMany
from interline.words import read_net
from tests.samples import NET, VALUES, Case, all_journeys, damaged, net_of, random_bookings, random_net, with_value
from tests.test_broken import WRONG_BOOKINGS
from tests.test_inventory import people, three, told_left

EXAMPLE = ("(station A 0 30) (station B 0 30) (type T 9 20) (classes C Y)"
           "(flight F A B 0 60 T 100 (limits 2 1)) (tail N T F)")


def told_rooms(net, bookings, flight):
    row = [one for one in net[3] if one[0] == flight][0]
    ranks = [net[2].index(cabin) for _, cabin, journey in bookings if flight in journey]
    return [max(0, limit - sum(rank >= least for rank in ranks)) for least, limit in enumerate(row[7])]


def choices(net, bookings, flight, requests):
    """All choices: those subsets that keep to the rooms."""
    rooms = told_rooms(net, bookings, flight)
    for many in range(len(requests) + 1):
        for row in itertools.combinations(requests, many):
            ranks = [net[2].index(cabin) for _, cabin, _ in row]
            if all(sum(rank >= least for rank in ranks) <= room for least, room in enumerate(rooms)):
                yield row


def selections(net, bookings, offers):
    """All selections: those subsets that can be sold one after the other."""
    for many in range(len(offers) + 1):
        for row in itertools.combinations(offers, many):
            sold = list(bookings)
            for name, cabin, journey, _ in row:
                if min(told_left(net, sold, flight, cabin) for flight in journey) == 0:
                    break
                sold.append((name, cabin, journey))
            else:
                yield row


def random_requests(chance, net, many, dearest=4):
    return tuple((f"r {place}", chance.choice(net[2]), chance.randrange(dearest)) for place in range(many))


def random_offers(chance, net, many, dearest=5):
    rows = all_journeys(net)
    return tuple((f"o {place}", chance.choice(net[2]), tuple(flight[0] for flight in chance.choice(rows)),
                  chance.randrange(dearest)) for place in range(many))


class ChooseTest(Case):

    def test_example(self):
        requests = (("a", "Y", 50), ("b", "Y", 70), ("c", "C", 40))
        self.assertEqual(choose(read_net(EXAMPLE), (), "F", requests), (110, ("b", "c"), (1, None, None)))

    def test_by_hand(self):
        net = three((3, 2, 1))
        requests = (("a", "Z", 9), ("b", "Z", 8), ("c", "Y", 5), ("d", "Y", 4), ("e", "C", 1), ("f", "C", 2))
        self.assertEqual(choose(net, (), "F", requests), (16, ("a", "c", "f"), (None, 2, None, 1, 0, None)))
        self.assertEqual(choose(net, people("Y"), "F", requests)[:2], (11, ("a", "f")))
        self.assertEqual(choose(net, people("CC"), "F", requests)[:2], (9, ("a",)))
        told = choose(net, people("ZZZZ"), "F", requests)
        self.assertEqual(told[:2], (0, ()))
        self.assertIsNone(accept_choice(net, people("ZZZZ"), "F", requests, told))
        self.assertEqual(choose(net, (), "F", ()), (0, (), ()))

    def test_against_all_choices(self):
        chance = random.Random(8)
        for seed in range(60):
            net = random_net(seed, classes=1 + seed % 3)
            bookings = random_bookings(seed, net, 5)
            for flight in net[3][:3]:
                requests = random_requests(chance, net, chance.randint(0, 7))
                told = choose(net, bookings, flight[0], requests)
                sums = [sum(request[2] for request in row) for row in choices(net, bookings, flight[0], requests)]
                self.assertEqual(told[0], max(sums))
                self.assertIsNone(accept_choice(net, bookings, flight[0], requests, told))

    def test_each_value_that_is_right_is_accepted_and_no_other(self):
        chance = random.Random(9)
        for seed in range(25):
            net = random_net(seed, classes=1 + seed % 3)
            bookings = random_bookings(seed, net, 3)
            flight = chance.choice(net[3])[0]
            requests = random_requests(chance, net, 4, 3)
            rooms = told_rooms(net, bookings, flight)
            for row in choices(net, bookings, flight, requests):
                names = tuple(request[0] for request in row)
                for paper in itertools.product((None, *range(len(net[2]))), repeat=4):
                    right = all(self.is_right(net, rooms, row, request, rank)
                                for request, rank in zip(requests, paper))
                    told = (sum(request[2] for request in row), names, paper)
                    if right:
                        self.assertIsNone(accept_choice(net, bookings, flight, requests, told))
                    else:
                        self.wrong_paper("paper", accept_choice, net, bookings, flight, requests, told)

    def is_right(self, net, rooms, row, request, rank):
        if request in row or rank is None:
            return request in row and rank is None
        if rank > net[2].index(request[1]):
            return False
        prices = [price for _, cabin, price in row if net[2].index(cabin) >= rank]
        return len(prices) == rooms[rank] and min(prices, default=request[2]) >= request[2]

    def test_many_requests(self):
        net = three((12, 8, 3))
        requests = tuple((str(place), "CYZ"[place % 3], place * 7 % 24) for place in range(24))
        told = choose(net, (), "F", requests)
        self.assertIsNone(accept_choice(net, (), "F", requests, told))
        self.assertEqual(len(told[1]), 12)


class AcceptChoiceTest(Case):

    REQUESTS = (("a", "Y", 50), ("b", "Y", 70), ("c", "C", 40), ("d", "C", 40))

    def setUp(self):
        self.given = (read_net(EXAMPLE), (), "F", self.REQUESTS)

    def refuses(self, reason, told):
        self.wrong_paper(reason, accept_choice, *self.given, told)

    def test_right_ones(self):
        self.assertIsNone(accept_choice(*self.given, (110, ("b", "c"), (1, None, None, 0))))
        self.assertIsNone(accept_choice(*self.given, (110, ("b", "d"), (1, None, 0, None))))

    def test_form(self):
        for value in (*VALUES, (110, ("b", "c")), (110, ("b", "c"), (1, None, None, 0), 0),
                      [110, ("b", "c"), (1, None, None, 0)], (True, ("b", "c"), ()), ("110", (), ()), (None, (), ()),
                      ((110,), (), ())):
            if not (isinstance(value, tuple) and len(value) == 3 and type(value[0]) is int):
                self.refuses("form", value)

    def test_choice(self):
        for names in (None, "bc", ["b", "c"], ("x",), ("b", 1), ("b", "b"), ("c", "b"), ("a", "b"), ("b", "c", "d"),
                      ("a", "b", "c"), (("b",),), 5, ("",), ("b", None), True):
            self.refuses("choice", (110, names, (1, None, None, 0)))
            self.refuses("choice", (0, names, None))

    def test_sum(self):
        for number in (0, 109, 111, -110, 10 ** 40):
            self.refuses("sum", (number, ("b", "c"), (1, None, None, 0)))
            self.refuses("sum", (number, ("b", "c"), None))

    def test_paper(self):
        paper = (1, None, None, 0)
        for value in [*VALUES, *damaged(paper), (0, None, None, 0), (1, None, None, 1), (1, 1, None, 0),
                      (1, None, 0, 0), (None, None, None, 0), (1, None, None, None), (2, None, None, 0),
                      (-1, None, None, 0), (True, None, None, 0), (1, None, None, False)]:
            # Rank 0 is full too, but of a request that costs less than a.
            self.refuses("paper", (110, ("b", "c"), value))

    def test_choices_that_are_not_the_greatest(self):
        for names, number in (((), 0), (("a",), 50), (("a", "c"), 90), (("c", "d"), 80), (("b",), 70)):
            for paper in itertools.product((None, 0, 1), repeat=4):
                self.refuses("paper", (number, names, paper))

    def test_ranks_below_none_are_none(self):
        net = net_of([("F", "A", "B", 0, 60, "T", (1,))])
        given = (net, (), "F", (("a", "Y", 5), ("b", "Y", 4)))
        self.assertIsNone(accept_choice(*given, (5, ("a",), (None, 0))))
        for rank in (-1, 1, False):
            self.wrong_paper("paper", accept_choice, *given, (5, ("a",), (None, rank)))

    def test_any_values(self):
        self.survives_papers(accept_choice, self.given, [choose(*self.given)])


class RequestArgumentsTest(Case):

    def test_wrong_arguments_in_their_order(self):
        for function, rest in ((choose, ()), (accept_choice, (None,))):
            self.asks_the_net_first(function, None, None, None, *rest)
            for value in WRONG_BOOKINGS:
                self.wrong_argument("bookings", function, NET, value, None, None, *rest)
            for value in VALUES:
                if value != "F":
                    self.wrong_argument("flight", function, NET, (), value, None, *rest)
                if value != ():
                    self.wrong_argument("requests", function, NET, (), "F", value, *rest)
            self.survives(lambda *told: function(NET, *told), ((), "F", (("a", "Y", 5),), *rest), InterlineError)

    def test_requests(self):
        for value in (None, [], [("a", "Y", 5)], (["a", "Y", 5],), (("a", "Y"),), (("a", "Y", 5, 5),),
                      ((1, "Y", 5),), ((None, "Y", 5),), (("a", "X", 5),), (("a", None, 5),), (("a", 1, 5),),
                      (("a", "Y", -1),), (("a", "Y", 1000001),), (("a", "Y", True),), (("a", "Y", "5"),),
                      (("a", "Y", 5), ("a", "C", 6)), (("a", "Y", 5), None), (("a", ("Y",), 5),), ("a", "Y", 5),
                      tuple((str(place), "Y", 5) for place in range(25))):
            self.wrong_argument("requests", choose, NET, (), "F", value)
            self.wrong_argument("requests", accept_choice, NET, (), "F", value, None)
        for value in ((("", "Y", 0),), (("a b", "C", 1000000), ("\u00e9", "Y", 0)),
                      tuple((str(place), "Y", 5) for place in range(24))):
            choose(NET, (), "F", value)


def rows_below(net, bookings, offers, least):
    """How many rows of decisions that do not decide all offers have such a bound, told by trying all."""
    count = 0
    for many in range(len(offers)):
        for row in itertools.product((True, False), repeat=many):
            taken = [offer for offer, yes in zip(offers, row) if yes]
            if tuple(taken) in set(selections(net, bookings, taken)):
                sold = list(bookings) + [offer[:3] for offer in taken]
                open_ones = [offer for offer in offers[many:]
                             if min(told_left(net, sold, flight, offer[1]) for flight in offer[2])]
                count += sum(offer[3] for offer in taken + open_ones) >= least
    return count


def told_paper(net, bookings, offers, taken, most):
    """The paper of point 40 for a row of decisions: what it takes, and the offers that follow."""
    sold = list(bookings) + [offer[:3] for offer in taken]
    open_ones = [offer for offer in offers if min(told_left(net, sold, flight, offer[1]) for flight in offer[2])]
    if sum(offer[3] for offer in taken + open_ones) <= most:
        return ()
    parts = []
    if offers[0] in open_ones:
        parts.append(told_paper(net, bookings, offers[1:], taken + [offers[0]], most))
    return (*parts, told_paper(net, bookings, offers[1:], taken, most))


class GreatestSalesTest(Case):

    def test_by_hand(self):
        offers = (("a", "Y", ("F", "G"), 90), ("b", "Y", ("F",), 50), ("c", "Y", ("G",), 60), ("d", "C", ("J",), 0))
        # Two of class Y find room on F and on G, so all of them do.
        told = greatest_sales(NET, (), offers)
        self.assertEqual((told[0], told[1][:3], told[2]), (200, ("a", "b", "c"), ()))
        bookings = (("x", "Y", ("F",)), ("y", "Y", ("G",)))
        told = greatest_sales(NET, bookings, offers)
        self.assertEqual((told[0], told[1][:2], told[2]), (110, ("b", "c"), ((), ())))
        self.assertEqual(greatest_sales(NET, bookings + (("z", "Y", ("G",)),), offers)[0], 50)
        self.assertEqual(greatest_sales(NET, (), ()), (0, (), ()))

    def test_a_lower_class_that_is_oversold_closes_no_higher_one(self):
        net = three((5, 3, 1))
        offers = (("z", "Z", ("F",), 5), ("y", "Y", ("F",), 5), ("c", "C", ("F",), 5))
        self.assertEqual(greatest_sales(net, people("ZZ"), offers)[:2], (10, ("y", "c")))

    def test_against_all_selections(self):
        chance = random.Random(10)
        branched = 0
        for seed in range(60):
            net = random_net(seed, classes=1 + seed % 2, tails=2, longest=3)
            bookings = random_bookings(seed, net, 2)
            offers = random_offers(chance, net, chance.randint(3, 8), 9)
            told = greatest_sales(net, bookings, offers)
            rows = list(selections(net, bookings, offers))
            sums = {tuple(offer[0] for offer in row): sum(offer[3] for offer in row) for row in rows}
            self.assertEqual(told[0], max(sums.values()))
            self.assertEqual(told[0], sums[told[1]])
            self.assertEqual(told[2], told_paper(net, bookings, offers, [], told[0]))
            self.assertIsNone(accept_sales(net, bookings, offers, told))
            branched += told[2] != ()
            for names, total in sums.items():
                if total == told[0]:
                    self.assertIsNone(accept_sales(net, bookings, offers, (total, names, told[2])))
                else:
                    self.wrong_paper("paper", accept_sales, net, bookings, offers, (total, names, told[2]))
                    self.wrong_paper("paper", accept_sales, net, bookings, offers, (total, names, ()))
            for value in damaged(told[2]):
                self.wrong_paper("paper", accept_sales, net, bookings, offers, (*told[:2], value))
        self.assertGreater(branched, 20)

    def free_offers(self, text):
        """An offer for each letter: a free one for 0, and one that costs a coin for 1."""
        return tuple((str(place), "Y", ("F",), int(price)) for place, price in enumerate(text))

    def test_rows_of_decisions_that_are_visited(self):
        net = net_of([("F", "A", "B", 0, 60, "T", (99,))])
        # A row that leaves an offer of one coin is below the greatest sum; free ones may be taken or left.
        for text, count in (("0" * 9, 511), ("1" * 24, 24), ("0" * 8 + "1", 511), ("1" + "0" * 9, 512)):
            self.assertEqual(rows_of_text(text), count)
            told = greatest_sales(net, (), self.free_offers(text))
            self.assertEqual((told[0], told[2]), (text.count("1"), ()))
        for text in ("0" * 10, "0" * 9 + "1", "0" * 24):
            self.assertGreater(rows_of_text(text), 600)
            self.refused(TooMany, ("choices",), greatest_sales, net, (), self.free_offers(text))

    def test_as_many_rows_as_allowed(self):
        net = net_of([("F", "A", "B", 0, 60, "T", (99,))])
        text = "1" + "000" + "1" + "0" + "1" + "00" + "1" + "000"
        self.assertEqual(rows_of_text(text), 600)
        self.assertEqual(greatest_sales(net, (), self.free_offers(text))[0], 4)
        self.assertEqual(rows_of_text("1" + text), 601)
        self.refused(TooMany, ("choices",), greatest_sales, net, (), self.free_offers("1" + text))

    def test_as_many_rows_as_allowed_in_a_tangle(self):
        # No two rows have one bound here, so each of the rows is visited ahead of the greatest sum.
        for sure, count in ((0, 595), (4, 599), (5, 600), (6, 601), (11, 606)):
            offers = tangle(sure)
            if count > 600:
                self.refused(TooMany, ("choices",), greatest_sales, TANGLED, (), offers)
                continue
            told = greatest_sales(TANGLED, (), offers)
            self.assertIsNone(accept_sales(TANGLED, (), offers, told))
            self.assertEqual(rows_from(offers, {}, 0, told[0]), count)

    def test_far_too_many_rows(self):
        # There are millions of rows above the greatest sum; not all of them need be visited to tell so.
        offers = tuple((str(place), "Y", ("f0",), 1000 + place) for place in range(24))
        self.refused(TooMany, ("choices",), greatest_sales, with_value(TANGLED, 3, 0, 7, (12,)), (), offers)

    def test_accept_sales_never_raises_too_many(self):
        net = net_of([("F", "A", "B", 0, 60, "T", (99,))])
        offers = self.free_offers("0" * 24)
        self.assertIsNone(accept_sales(net, (), offers, (0, (), ())))
        self.assertIsNone(accept_sales(net, (), offers, (0, ("3", "17"), ())))
        self.wrong_paper("paper", accept_sales, net, (), offers, (0, (), ((),)))
        # One of 24 travellers finds a seat: whoever is taken, all rows have one bound as long as none is.
        net = net_of([("F", "A", "B", 0, 60, "T", (1,))])
        offers = self.free_offers("1" * 24)
        told = greatest_sales(net, (), offers)
        self.assertEqual(told[0], 1)
        self.assertIsNone(accept_sales(net, (), offers, told))

    def test_rows_are_counted_with_the_greatest_sum_as_the_bound(self):
        raised, returned = 0, 0
        for seed in range(40):
            chance = random.Random(seed)
            net = wide_net(random_net(seed, classes=1 + seed % 2, tails=2, longest=3))
            offers = random_offers(chance, net, 6, 9)
            best = greatest_sales(net, (), offers)[0]
            count = rows_below(net, (), offers, best)
            # Free offers with room for all double the rows behind them.
            for many in range(3, 8):
                free = tuple((f"free {place}", net[2][0], ("wide",), 0) for place in range(many))
                if 2 ** many - 1 + 2 ** many * count > 600:
                    self.refused(TooMany, ("choices",), greatest_sales, net, (), free + offers)
                    raised += 1
                else:
                    self.assertEqual(greatest_sales(net, (), free + offers)[0], best)
                    returned += 1
        self.assertGreater(min(raised, returned), 50)

    def test_papers_that_are_no_papers(self):
        net = net_of([("F", "A", "B", 0, 60, "T", (1,))])
        offers = self.free_offers("1234")
        told = greatest_sales(net, (), offers)
        self.assertEqual(told[:2], (4, ("3",)))
        self.assertIsNone(accept_sales(net, (), offers, told))
        # For a sum that is too small there is no paper, whatever its form.
        for paper in ((), ((),), ((), ()), (((), ()), ()), ((), ((), ((), ((), ()))))):
            self.wrong_paper("paper", accept_sales, net, (), offers, (3, ("2",), paper))
        whole = ((), ((), ((), ((),))))
        self.wrong_paper("paper", accept_sales, net, (), offers, (3, ("2",), whole))


def rows_of_text(text):
    """The rows of decisions that leave no offer of a coin, but those that decide all."""
    return sum(2 ** text[:place].count("0") for place in range(len(text)))


TANGLED = net_of([(f"f{place}", "AB"[place % 2], "BA"[place % 2], 100 * place, 100 * place + 50, "T", (2,))
                  for place in range(6)] + [("wide", "A", "B", 0, 5, "T", (99,))])
PIECES = ((3, 1, 1030), (4, 2, 3069), (5, 1, 6485), (1, 2, 8800), (0, 1, 1393), (0, 3, 6128), (1, 3, 7215),
          (4, 1, 6609), (1, 2, 6406), (2, 2, 7637), (3, 3, 6857), (5, 1, 5773), (5, 1, 5058))


def tangle(sure):
    """Offers for neighbouring flights with two seats each, behind so many offers that any greatest sum takes."""
    first = tuple((f"sure {place}", "Y", ("wide",), 500000) for place in range(sure))
    return first + tuple((str(place), "Y", tuple(f"f{at}" for at in range(begin, begin + size)), price)
                         for place, (begin, size, price) in enumerate(PIECES))


def rows_from(offers, taken, total, least):
    """The rows of decisions from one on that have such a bound and do not decide all, for the tangled net."""
    open_ones = [offer for offer in offers if all(taken.get(name, 0) < 2 or name == "wide" for name in offer[2])]
    if not offers or total + sum(offer[3] for offer in open_ones) < least:
        return 0
    count = 1 + rows_from(offers[1:], taken, total, least)
    if offers[0] in open_ones:
        more = {name: taken.get(name, 0) + (name in offers[0][2]) for name in (*taken, *offers[0][2])}
        count += rows_from(offers[1:], more, total + offers[0][3], least)
    return count


def wide_net(net):
    """A net with one more flight that has room for all."""
    row = ("wide", "A", "B", 0, 5, "V", 1, (99,) * len(net[2]))
    return net[:3] + (net[3] + (row,), net[4] + (("wide", "V", ("wide",)),), net[5])


class AcceptSalesTest(Case):

    OFFERS = (("a", "Y", ("F", "G"), 90), ("b", "Y", ("F",), 50), ("c", "Y", ("G",), 60), ("d", "Y", ("F",), 10))
    BOOKINGS = (("x", "Y", ("F",)), ("y", "Y", ("G",)))

    def setUp(self):
        self.given = (NET, self.BOOKINGS, self.OFFERS)
        self.told = greatest_sales(*self.given)

    def refuses(self, reason, told):
        self.wrong_paper(reason, accept_sales, *self.given, told)

    def test_form(self):
        for value in (*VALUES, self.told[:2], self.told + (0,), list(self.told), (True, *self.told[1:]),
                      ("110", *self.told[1:]), (None, *self.told[1:])):
            if not (isinstance(value, tuple) and len(value) == 3 and type(value[0]) is int):
                self.refuses("form", value)

    def test_choice(self):
        self.assertEqual(self.told[:2], (110, ("b", "c")))
        for names in (None, "bc", ["b", "c"], ("x",), ("b", 1), ("b", "b"), ("c", "b"), ("a", "b"), ("b", "c", "d"),
                      ("a", "c"), (("b",),), 5, ("",), ("b", None), ("F",)):
            self.refuses("choice", (110, names, self.told[2]))
            self.refuses("choice", (0, names, None))

    def test_sum(self):
        for number in (0, 109, 111, -110, 10 ** 40):
            self.refuses("sum", (number, ("b", "c"), self.told[2]))
            self.refuses("sum", (number, ("b", "c"), None))

    def test_paper(self):
        for value in [*VALUES, *damaged(self.told[2])]:
            if value != self.told[2]:
                self.refuses("paper", (110, ("b", "c"), value))
        self.refuses("paper", (90, ("a",), self.told[2]))

    def test_any_values(self):
        self.survives_papers(accept_sales, self.given, [self.told])

    def test_wrong_arguments_in_their_order(self):
        for function, rest in ((greatest_sales, ()), (accept_sales, (None,))):
            self.asks_the_net_first(function, None, None, *rest)
            for value in WRONG_BOOKINGS:
                self.wrong_argument("bookings", function, NET, value, None, *rest)
            for value in VALUES:
                if value != ():
                    self.wrong_argument("offers", function, NET, (), value, *rest)
            self.survives(lambda *told: function(NET, *told), ((), self.OFFERS, *rest), InterlineError)

    def test_offers(self):
        for value in (None, [], [("a", "Y", ("F",), 5)], (["a", "Y", ("F",), 5],), (("a", "Y", ("F",)),),
                      (("a", "Y", ("F",), 5, 5),), ((1, "Y", ("F",), 5),), ((None, "Y", ("F",), 5),),
                      (("a", "X", ("F",), 5),), (("a", None, ("F",), 5),), (("a", "Y", (), 5),),
                      (("a", "Y", "F", 5),), (("a", "Y", ("X",), 5),), (("a", "Y", ("G", "F"), 5),),
                      (("a", "Y", ["F"], 5),), (("a", "Y", ("F",), -1),), (("a", "Y", ("F",), 1000001),),
                      (("a", "Y", ("F",), True),), (("a", "Y", ("F",), "5"),), (("a", "Y", ("F",), None),),
                      (("a", "Y", ("F",), 5), ("a", "C", ("G",), 6)), (("a", "Y", ("F",), 5), None),
                      ("a", "Y", ("F",), 5), tuple((str(place), "Y", ("F",), 5) for place in range(25))):
            self.wrong_argument("offers", greatest_sales, NET, (), value)
            self.wrong_argument("offers", accept_sales, NET, (), value, None)
        for value in ((("", "Y", ("F",), 0),), (("x", "C", ("F", "G"), 1000000), ("\u00e9", "Y", ("J",), 0)),
                      tuple((str(place), "Y", ("J",), 5) for place in range(24))):
            told = greatest_sales(NET, (("x", "Y", ("F",)),), value)
            self.assertIsNone(accept_sales(NET, (("x", "Y", ("F",)),), value, told))
        self.assertRaises(PaperError, accept_sales, NET, (), (), (0, (), ((),)))


if __name__ == "__main__":
    unittest.main()
