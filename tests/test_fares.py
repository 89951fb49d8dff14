"""Points 25 to 30: fares, constructions and shares."""

import random
import unittest

from interline.errors import ArgumentError, InterlineError
from interline.fares import accept_price_table, construct, dear, price_table, shares
from tests.samples import NET, VALUES, Case, all_journeys, damaged, net_of, random_net, with_part

CHAIN = [(f"f{place}", "ABCDE"[place], "ABCDE"[place + 1], 100 * place, 100 * place + 50) for place in range(4)]
ALL = tuple(row[0] for row in CHAIN)


def fares_net(*fares):
    """The chain of flights from A to E by B, C and D with fares (name, start, end, price, stops)."""
    rows = [(name, start, end, "Y", price, stops, 0, 0) for name, start, end, price, stops in fares]
    return net_of(CHAIN, rows)


def constructions(net, flights, cabin):
    """All constructions of flights in a class: the price and the row of (number, place of the fare)."""
    if not flights:
        return [(0, ())]
    found = []
    for size in range(1, len(flights) + 1):
        for place, (_, start, end, kind, price, stops, _, _) in enumerate(net[5]):
            if (kind, start, end) == (cabin, flights[0][1], flights[size - 1][2]) and size <= stops + 1:
                for cost, rest in constructions(net, flights[size:], cabin):
                    found.append((price + cost, ((size, place), *rest)))
    return found


def told_entry(net, flights, cabin):
    return min([(price, len(row)) for price, row in constructions(net, flights, cabin)], default=None)


def cases():
    """Journeys of random nets, some with many fares, with a class."""
    for seed in range(40):
        net = random_net(seed, stations=3 + seed % 2, tails=4, longest=5, classes=1 + seed % 2, fares=40)
        rows = sorted(all_journeys(net), key=len)
        for row in rows[::5] + rows[-6:]:
            yield net, row, tuple(flight[0] for flight in row), net[2][seed % len(net[2])]


class ConstructTest(Case):

    def test_sample(self):
        self.assertEqual(construct(NET, ("F", "G"), "Y"), (90, ((2, "ac"),)))
        self.assertEqual(construct(NET, ("H", "I"), "Y"), (90, ((2, "ac"),)))
        self.assertEqual(construct(NET, ("F",), "Y"), (50, ((1, "fl"),)))
        self.assertEqual(construct(NET, ("F", "G"), "C"), (300, ((2, "cc"),)))
        self.assertEqual(price_table(NET, ("F", "G"), "Y"), ((90, 1), (40, 1), (0, 0)))

    def test_none(self):
        self.assertIsNone(construct(NET, ("F",), "C"))
        self.assertIsNone(construct(NET, ("H",), "Y"))
        self.assertIsNone(construct(NET, ("F", "G", "J"), "Y"))
        self.assertEqual(price_table(NET, ("F", "G", "J"), "Y"), (None, None, None, (0, 0)))
        self.assertEqual(price_table(NET, ("H", "I"), "C"), ((300, 1), None, (0, 0)))

    def test_stops(self):
        for stops in range(4):
            net = fares_net(("x", "A", "E", 7, stops))
            self.assertEqual(construct(net, ALL, "Y"), (7, ((4, "x"),)) if stops == 3 else None)
            net = fares_net(("x", "A", "B", 7, stops))
            self.assertEqual(construct(net, ALL[:1], "Y"), (7, ((1, "x"),)))

    def test_least_price_goes_first(self):
        net = fares_net(("ac", "A", "C", 10, 1), ("ab", "A", "B", 4, 0), ("bc", "B", "C", 5, 0))
        self.assertEqual(construct(net, ALL[:2], "Y"), (9, ((1, "ab"), (1, "bc"))))

    def test_fewest_parts_of_one_price(self):
        net = fares_net(("ab", "A", "B", 4, 0), ("bc", "B", "C", 6, 0), ("ac", "A", "C", 10, 1))
        self.assertEqual(construct(net, ALL[:2], "Y"), (10, ((2, "ac"),)))
        self.assertEqual(price_table(net, ALL[:2], "Y"), ((10, 1), (6, 1), (0, 0)))
        # Free parts count too.
        net = fares_net(("ab", "A", "B", 0, 0), ("bc", "B", "C", 0, 0), ("cd", "C", "D", 0, 0), ("ac", "A", "C", 0, 1))
        self.assertEqual(construct(net, ALL[:3], "Y"), (0, ((2, "ac"), (1, "cd"))))

    def test_the_first_row_of_those(self):
        net = fares_net(("y", "A", "B", 5, 3), ("x", "A", "B", 5, 0), ("z", "B", "C", 5, 0))
        self.assertEqual(construct(net, ALL[:2], "Y"), (10, ((1, "y"), (1, "z"))))
        net = fares_net(("ac", "A", "C", 5, 1), ("cd", "C", "D", 5, 0), ("ab", "A", "B", 5, 0), ("bd", "B", "D", 5, 1))
        self.assertEqual(construct(net, ALL[:3], "Y"), (10, ((1, "ab"), (2, "bd"))))
        net = fares_net(("bd", "B", "D", 9, 1), ("dd", "B", "D", 5, 1), ("ee", "B", "D", 5, 1), ("ab", "A", "B", 5, 0))
        self.assertEqual(construct(net, ALL[:3], "Y"), (10, ((1, "ab"), (2, "dd"))))

    def test_against_all_constructions(self):
        some, many = 0, 0
        for net, flights, journey, cabin in cases():
            rows = constructions(net, flights, cabin)
            told = construct(net, journey, cabin)
            if not rows:
                self.assertIsNone(told)
                continue
            some += 1
            price, row = min(rows, key=lambda row: (row[0], len(row[1]), row[1]))
            many += [cost for cost, _ in rows].count(price) > 1
            self.assertEqual(told, (price, tuple((size, net[5][place][0]) for size, place in row)))
        self.assertGreater(some, 50)
        self.assertGreater(many, 20)

    def test_other_classes_do_not_count(self):
        net = with_part(NET, 5, [("x", "A", "B", "C", 1, 0, 0, 0), ("y", "A", "B", "Y", 2, 0, 0, 0)])
        self.assertEqual(construct(net, ("F",), "C"), (1, ((1, "x"),)))
        self.assertEqual(construct(net, ("F",), "Y"), (2, ((1, "y"),)))


class PriceTableTest(Case):

    def test_against_all_constructions(self):
        for net, flights, journey, cabin in cases():
            told = tuple(told_entry(net, flights[place:], cabin) for place in range(len(flights) + 1))
            self.assertEqual(price_table(net, journey, cabin), told)
            self.assertIsNone(accept_price_table(net, journey, cabin, told))

    def test_one_entry_changed(self):
        for net, flights, journey, cabin in list(cases())[::9]:
            table = price_table(net, journey, cabin)
            for place, entry in enumerate(table):
                price, parts = entry or (0, 0)
                for other in (None, (price + 1, parts), (price - 1, parts), (price, parts + 1), (price, parts - 1),
                              (10 ** 40, 1), (0, 0), (0, 1)):
                    if other != entry:
                        wrong = table[:place] + (other,) + table[place + 1:]
                        self.wrong_paper("entry", accept_price_table, net, journey, cabin, wrong)

    def test_entries_that_fit_one_another_but_not_the_end(self):
        net = fares_net(("ab", "A", "B", 4, 0))
        for table in (((5, 2), (1, 1)), ((4, 1), (0, 0))):
            wrong = table != ((4, 1), (0, 0))
            if wrong:
                self.wrong_paper("entry", accept_price_table, net, ALL[:1], "Y", table)
            else:
                self.assertIsNone(accept_price_table(net, ALL[:1], "Y", table))

    def test_other_forms(self):
        table = price_table(NET, ("F", "G"), "Y")
        for value in (*VALUES, table[:-1], table + (None,), list(table), table[:-1] + (0,), table[:-1] + ((0,),),
                      table[:-1] + ((0, 0, 0),), table[:-1] + ([0, 0],), table[:-1] + ((False, 0),),
                      ((90, True),) + table[1:], ((90, "1"),) + table[1:], ((90, None),) + table[1:]):
            self.wrong_paper("form", accept_price_table, NET, ("F", "G"), "Y", value)
        # The form goes first, wherever an entry is wrong.
        self.wrong_paper("form", accept_price_table, NET, ("F", "G"), "Y", ((1, 1), (40, 1), (0, 0, 0)))
        self.survives_papers(accept_price_table, (NET, ("F", "G"), "Y"), [table])
        self.survives_papers(accept_price_table, (NET, ("H", "I"), "C"), [price_table(NET, ("H", "I"), "C")])


class DearTest(Case):

    def test_by_hand(self):
        net = fares_net(("ac", "A", "C", 10, 3), ("ab", "A", "B", 4, 0), ("bc", "B", "C", 5, 0), ("a2", "A", "B", 5, 1),
                        ("cc", "A", "C", 9, 1), ("dd", "A", "C", 8, 0), ("cd", "C", "D", 1, 0), ("ad", "A", "D", 11, 2),
                        ("bb", "B", "D", 6, 1), ("b2", "B", "D", 7, 1))
        self.assertEqual(dear(net, ALL[:2], "Y"), ((0, 1, "a2"), (0, 2, "ac")))
        self.assertEqual(dear(net, ALL[:3], "Y"), ((0, 1, "a2"), (0, 2, "ac"), (0, 3, "ad"), (1, 2, "b2")))
        self.assertEqual(dear(net, ALL[2:3], "Y"), ())

    def test_against_all_constructions(self):
        some = 0
        for net, flights, journey, cabin in cases():
            told = []
            for place in range(len(flights)):
                for size in range(1, len(flights) - place + 1):
                    part = flights[place:place + size]
                    rows = constructions(net, part, cabin)
                    for at, fare in enumerate(net[5]):
                        if any(row == ((size, at),) for _, row in rows) and any(cost < fare[4] for cost, _ in rows):
                            told.append((place, size, fare[0]))
            self.assertEqual(dear(net, journey, cabin), tuple(told))
            some += len(told)
        self.assertGreater(some, 100)


class FareArgumentsTest(Case):

    def test_wrong_arguments_in_their_order(self):
        wrong = (*VALUES, ["F"], ("F", "I"), ("G", "F"), ("X",), ("F", "G", "J", "F"), ("F", "J"), ("F", "F"))
        for function, rest in ((construct, ()), (price_table, ()), (dear, ()), (accept_price_table, (None,))):
            self.asks_the_net_first(function, None, None, *rest)
            for journey in wrong:
                if journey != ("F",):
                    self.wrong_argument("journey", function, NET, journey, None, *rest)
            for cabin in (*VALUES, "X", "y", ["Y"], ("Y",)):
                if cabin != "Y":
                    self.wrong_argument("class", function, NET, ("F",), cabin, *rest)
            self.survives(function, (NET, ("F",), "Y", *rest), InterlineError)

    def test_journeys_have_four_flights_at_most(self):
        flights = CHAIN + [("f4", "E", "F", 400, 450)]
        net = net_of(flights)
        construct(net, ALL, "Y")
        self.wrong_argument("journey", construct, net, ALL + ("f4",), "Y")


class SharesTest(Case):

    def test_examples(self):
        self.assertEqual((shares(100, (1, 1, 1)), shares(7, (300, 100))), ((34, 33, 33), (5, 2)))

    def test_by_hand(self):
        self.assertEqual(shares(0, (1, 2, 3, 4)), (0, 0, 0, 0))
        self.assertEqual(shares(4000000, (20000, 20000, 20000, 20000)), (1000000,) * 4)
        self.assertEqual(shares(4000000, (1, 20000)), (200, 3999800))
        self.assertEqual(shares(10, (1, 2, 4)), (1, 3, 6))
        self.assertEqual(shares(2, (1, 1, 1, 1)), (1, 1, 0, 0))
        self.assertEqual(shares(3, (1, 1, 1, 1)), (1, 1, 1, 0))
        self.assertEqual(shares(1, (1, 2, 1)), (0, 1, 0))
        self.assertEqual(shares(5, (3,)), (5,))
        self.assertEqual(shares(5, (1, 3, 3)), (1, 2, 2))
        self.assertEqual(shares(1, (1, 3, 3)), (0, 1, 0))

    def test_what_is_told(self):
        chance = random.Random(5)
        for _ in range(500):
            weights = tuple(chance.choice((1, 2, 3, 7, 100, 20000)) for _ in range(chance.randint(1, 4)))
            price = chance.choice((0, 1, 2, 3, 10, 99, 4000000, chance.randrange(4000000)))
            told = shares(price, weights)
            whole = sum(weights)
            self.assertEqual(sum(told), price)
            rests = [price * weight % whole for weight in weights]
            extra = [share - price * weight // whole for share, weight in zip(told, weights)]
            self.assertLessEqual(set(extra), {0, 1})
            got = [(-rest, place) for place, rest in enumerate(rests) if extra[place]]
            left = [(-rest, place) for place, rest in enumerate(rests) if not extra[place]]
            self.assertTrue(not got or not left or max(got) < min(left))

    def test_wrong_arguments(self):
        for price in (-1, 4000001, None, True, False, "1", (), 1.0, 10 ** 40):
            self.wrong_argument("price", shares, price, None)
            self.wrong_argument("price", shares, price, (1,))
        for weights in (None, (), (1, 1, 1, 1, 1), (0,), (20001,), (1, -1), (True,), (1, False), ("1",), [1, 1], 5,
                        (1, (1,)), "1", (1, None)):
            self.wrong_argument("weights", shares, 5, weights)
        self.survives(shares, (5, (1, 1)), ArgumentError)
        self.assertEqual(shares(4000000, (1, 20000, 1, 20000))[0], 100)


class ValuesTest(Case):

    def test_damaged_values_are_unlike(self):
        for paper in ((1, (None, "a")), ((0, 1), ())):
            for value in damaged(paper):
                self.assertFalse(value == paper and repr(value) == repr(paper))


if __name__ == "__main__":
    unittest.main()
