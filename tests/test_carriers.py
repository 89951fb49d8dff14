"""Points 143 to 147: what carriers owe each other, and the fewest payments."""

import itertools
import random
import unittest

from interline.carriers import accept_group_table, accept_payments, balances, group_table, least_payments, statement
from interline.errors import ArgumentError, InterlineError, LogError, PaperError, SaleError
from interline.tickets import Office, reopen
from tests.samples import NET, VALUES, Case, all_journeys, damaged, net_of, random_net

CARRIERS = (("east", ("N1",)), ("west", ("N2",)))
WRONG_CARRIERS = (
    None, 5, "a", True, (), [], ("east", ("N1", "N2")), (None,), (("east",),), (("east", ("N1", "N2"), 0),),
    (("east", ("N1",)),), (("east", ("N1", "N2")), ("west", ("N2",))), (("east", ("N1", "N2", "N2")),), (("east", ("N1", "N3")),),
    (("east", ("N1",)), ("east", ("N2",))), ((5, ("N1", "N2")),), ((None, ("N1", "N2")),), (("east", ["N1", "N2"]),),
    (("east", "N1"), ("west", ("N2",))), (("east", ("N1", 5)),), (("east", ("N1", ("N2",))),), [("east", ("N1", "N2"))],
    (["east", ("N1", "N2")],), (("east", ("N1", "N2", "F")),), (("east", ("N1", "N2")), *((str(k), ()) for k in range(10))),
    (("east", None), ("west", ("N1", "N2"))),
)
WRONG_SQUARES = (
    None, 5, "a", True, [], (0,), ((),), ((0, 0),), ((0,), (0,)), ((0, 1), (0, 0), (0, 0)), ((1,),), ((0, -1), (0, 0)),
    ((0, 5), (5, 1)), ((0, 5), (0, 1)), ((5, 0), (0, 0)), ((0, True), (0, 0)), ((False,),), ((0, None), (0, 0)), ((0, "5"), (0, 0)), ([0],), [(0,)],
    ((0, 5), (0,)), ((0, 5), None), tuple((0,) * 11 for _ in range(11)), ((-1,),),
)
# Two pairs settle for themselves, and the last one owes nothing.
SQUARE = ((0, 7, 0, 2, 0), (0, 0, 0, 2, 0), (0, 0, 0, 4, 0), (4, 0, 0, 0, 0), (0, 0, 0, 0, 0))


def told_balances(owed):
    many = len(owed)
    return tuple(sum(owed[other][mine] - owed[mine][other] for other in range(many)) for mine in range(many))


def partitions(places):
    """All ways to part places in groups."""
    if not places:
        yield []
        return
    for rest in partitions(places[1:]):
        yield [[places[0]]] + rest
        for number in range(len(rest)):
            yield rest[:number] + [[places[0]] + rest[number]] + rest[number + 1:]


def most_groups(rests):
    """The greatest number of groups with the sum 0 that all can be parted in."""
    return max(len(row) for row in partitions(list(range(len(rests)))) if all(sum(rests[place] for place in part) == 0
                                                                             for part in row))


def told_table(rests):
    """The table by its meaning: the most groups with the sum 0 within each set, whatever is left over."""
    found = []
    for number in range(2 ** len(rests)):
        places = [place for place in range(len(rests)) if number // 2 ** place % 2]
        found.append(max(sum(sum(rests[place] for place in part) == 0 for part in row) for row in partitions(places)))
    return tuple(found)


def settles(owed, payments):
    rests = list(told_balances(owed))
    for payer, payee, amount in payments:
        rests[payer] += amount
        rests[payee] -= amount
    return not any(rests)


def random_square(chance, many, most=4):
    return tuple(tuple(0 if one == other or chance.random() < 0.5 else chance.randint(0, most) for other in range(many))
                 for one in range(many))


class StatementTest(Case):

    LOG = (("sell", "a", "Y", ("F", "G")), ("sell", "b", "C", ("H", "I")), ("sell", "c", "Y", ("F",)))

    def test_flown_in_part(self):
        # All are flown by the carriers that have sold them.
        flown = self.LOG + tuple(("fly", name) for name in "FGHIJ")
        self.assertEqual(statement(NET, CARRIERS, flown), ((0, 0), (0, 0)))
        net = net_of([("F", "A", "B", 0, 60), ("G", "B", "C", 100, 160, "U"), ("H", "C", "A", 200, 260)],
                     [("x", "A", "C", "Y", 90, 3, 0, 0), ("z", "B", "A", "Y", 50, 3, 7, 20), ("w", "C", "A", "Y", 31, 0, 0, 0)],
                     types=(("T", 9, 0), ("U", 9, 0)))
        self.assertEqual([row for _, _, row in net[4]], [("F",), ("G",), ("H",)])
        carriers = (("one", ("N0", "N2")), ("two", ("N1",)))
        log = (("sell", "a", "Y", ("F", "G")), ("sell", "b", "Y", ("G", "H")), ("sell", "c", "Y", ("F", "G", "H")))
        self.assertEqual(statement(net, carriers, log), ((0, 0), (0, 0)))
        self.assertEqual(statement(net, carriers, log + (("fly", "F"),)), ((0, 0), (0, 0)))
        # a pays 90 for F and G, 45 each, and c the same and 31; b 50 for G and H.
        self.assertEqual(statement(net, carriers, log + (("fly", "F"), ("fly", "G"))), ((0, 90), (0, 0)))
        self.assertEqual(statement(net, carriers, log + (("fly", "F"), ("fly", "G"), ("fly", "H"))), ((0, 90), (25, 0)))
        # G is flown ahead of F: a and c are not on it.
        self.assertEqual(statement(net, carriers, log + (("fly", "G"),)), ((0, 0), (0, 0)))
        three = (("none", ()), ("two", ("N1",)), ("one", ("N0",)), ("last", ("N2",)), ("empty", ()))
        self.assertEqual(statement(net, three, log + (("fly", "F"), ("fly", "G"), ("fly", "H"))), (
            (0,) * 5, (0, 0, 0, 25, 0), (0, 90, 0, 31, 0), (0,) * 5, (0,) * 5))

    def test_changed_given_back_and_mended(self):
        # The first coupon tells who has sold a ticket, in whatever state it is.
        log = self.LOG + (("change", "a", ("H", "I")), ("fly", "H"))
        office = reopen(NET, log)
        value = [coupon for coupon in office.ticket("a")[1] if coupon[3] == "flown"][0][1]
        self.assertEqual(statement(NET, CARRIERS, log), ((0, value), (0, 0)))
        log = self.LOG + (("mend", "b", ("F", "G")), ("fly", "F"), ("fly", "G"))
        self.assertEqual(statement(NET, CARRIERS, log), ((0, 0), (300, 0)))
        self.assertEqual(statement(NET, CARRIERS, log[:-1]), ((0, 0), (225, 0)))
        log = self.LOG + (("refund", "a"), ("refund", "b"), ("fly", "H"), ("fly", "F"))
        self.assertEqual(statement(NET, CARRIERS, log), ((0, 0), (0, 0)))
        log = self.LOG + (("fly", "F"), ("mend", "a", None), ("fly", "G"))
        self.assertEqual(statement(NET, CARRIERS[::-1], log), ((0, 0), (0, 0)))

    def test_few_carriers(self):
        self.assertEqual(statement(NET, (("all", ("N2", "N1")),), self.LOG + (("fly", "F"),)), ((0,),))
        self.assertEqual(statement(((), (), ("Y",), (), (), ()), (), ()), ())
        self.assertEqual(statement(((), (), ("Y",), (), (), ()), (("a", ()), ("", ())), ()), ((0, 0), (0, 0)))

    def test_against_the_words(self):
        owing = 0
        for seed in range(120):
            chance = random.Random(seed)
            net = random_net(seed, tails=3, longest=5, fares=30, classes=1)
            rows = [tuple(flight[0] for flight in row) for row in all_journeys(net)]
            rows = [row for row in rows if len(row) > 1] or rows
            office = Office(net)
            flights = [row[0] for row in sorted(net[3], key=lambda row: row[3])]
            for number in range(30 + len(flights)):
                word = "fly" if number >= 30 and chance.random() < 0.7 else chance.choice(("sell", "sell", "change", "mend"))
                name = f"p{chance.randrange(number + 1)}"
                try:
                    if word == "sell":
                        office.sell(f"p{number}", net[2][0], chance.choice(rows))
                    elif word == "change":
                        office.change(name, chance.choice(rows))
                    elif word == "mend" and chance.random() < 0.2:
                        office.refund(name)
                    elif word == "mend":
                        office.mend(name, chance.choice((None, chance.choice(rows), chance.choice(rows))))
                    else:
                        office.fly(flights.pop(0))
                except SaleError:
                    pass
            carriers = [[f"c{place}", []] for place in range(chance.randint(1, 4))]
            for tail in net[4]:
                chance.choice(carriers)[1].append(tail[0])
            carriers = tuple((name, tuple(tails)) for name, tails in carriers)
            flies = {flight: place for place, (_, tails) in enumerate(carriers) for name, _, row in net[4] if name in tails
                     for flight in row}
            told = [[0] * len(carriers) for _ in carriers]
            for name in office.names():
                _, coupons = office.ticket(name)
                for flight, value, _, state in coupons:
                    if state == "flown" and flies[flight] != flies[coupons[0][0]]:
                        told[flies[coupons[0][0]]][flies[flight]] += value
                        owing += 1
            self.assertEqual(statement(net, carriers, office.log()), tuple(map(tuple, told)))
        self.assertGreater(owing, 20)

    def test_errors(self):
        self.asks_the_net_first(statement, None, None)
        for value in WRONG_CARRIERS:
            self.wrong_argument("carriers", statement, NET, value, None)
        for value in (None, 5, "a", [], tuple(("fly", "F") for _ in range(201))):
            self.wrong_argument("log", statement, NET, CARRIERS, value)
        self.refused(LogError, (1, "entry"), statement, NET, CARRIERS, (("fly", "F"), None))
        self.refused(LogError, (1, "flight"), statement, NET, CARRIERS, (("fly", "F"), ("fly", "F")))
        self.survives(statement, (NET, CARRIERS, self.LOG), InterlineError)
        ten = (("east", ("N1", "N2")), *((str(k), ()) for k in range(9)))
        self.assertEqual(statement(NET, ten, ()), ((0,) * 10,) * 10)


class BalancesTest(Case):

    def test_examples(self):
        owed = ((0, 5, 0), (0, 0, 5), (0, 0, 0))
        self.assertEqual(balances(owed), (-5, 0, 5))
        self.assertEqual(least_payments(owed), ((0, 2, 5),))

    def test_balances(self):
        self.assertEqual(balances(SQUARE), (-5, 5, -4, 4, 0))
        self.assertEqual(balances(()), ())
        self.assertEqual(balances(((0,),)), (0,))
        for seed in range(50):
            chance = random.Random(seed)
            owed = random_square(chance, chance.randint(0, 10), 10 ** 12)
            self.assertEqual(balances(owed), told_balances(owed))
            self.assertEqual(sum(balances(owed)), 0)

    def test_tables(self):
        self.assertEqual(group_table(()), (0,))
        self.assertEqual(group_table(((0,),)), (0, 1))
        self.assertEqual(group_table(((0, 5), (0, 0))), (0, 0, 0, 1))
        self.assertEqual(group_table(((0, 5), (5, 0))), (0, 1, 1, 2))
        self.assertEqual(group_table(SQUARE)[-1], 3)

    def test_against_all_ways_to_part(self):
        groups = set()
        for seed in range(150):
            chance = random.Random(seed)
            many = chance.randint(0, 6)
            owed = random_square(chance, many)
            rests = told_balances(owed)
            table = group_table(owed)
            self.assertEqual(len(table), 2 ** many)
            self.assertEqual(table[-1], most_groups(rests))
            if many < 6:
                self.assertEqual(table, told_table(rests))
            self.assertIsNone(accept_group_table(owed, table))
            payments = least_payments(owed)
            self.assertTrue(settles(owed, payments))
            self.assertEqual(len(payments), many - table[-1])
            self.assertTrue(all(amount > 0 and payer != payee for payer, payee, amount in payments))
            self.assertIsNone(accept_payments(owed, payments, table))
            groups.add((many, table[-1]))
        self.assertGreater(len(groups), 12)

    def test_no_fewer_payments_will_do(self):
        for seed in range(60):
            chance = random.Random(seed)
            owed = random_square(chance, 3, 2)
            least = len(least_payments(owed))
            every = [(payer, payee, amount) for payer in range(3) for payee in range(3) for amount in range(1, 5) if payer != payee]
            self.assertFalse(any(settles(owed, row) for many in range(least) for row in itertools.combinations(every, many)))

    def test_ten_carriers(self):
        for seed in range(6):
            chance = random.Random(seed)
            owed = random_square(chance, 10, 3)
            table = group_table(owed)
            self.assertEqual(len(table), 1024)
            payments = least_payments(owed)
            self.assertTrue(settles(owed, payments))
            self.assertIsNone(accept_payments(owed, payments, table))
            self.assertEqual(len(payments), 10 - table[-1])

    def test_squares_that_are_none(self):
        for value in WRONG_SQUARES:
            for function, rest in ((balances, ()), (group_table, ()), (least_payments, ()), (accept_group_table, (None,)),
                                   (accept_payments, (None, None))):
                self.wrong_argument("owed", function, value, *rest)
        for function in (balances, group_table, least_payments):
            self.survives(function, (SQUARE,), ArgumentError)
        self.survives(accept_group_table, (SQUARE, group_table(SQUARE)), InterlineError)
        self.survives(accept_payments, (SQUARE, least_payments(SQUARE), group_table(SQUARE)), InterlineError)


class AcceptTest(Case):

    OWED = ((0, 5, 0), (0, 0, 5), (0, 0, 0))
    TABLE = group_table(OWED)

    def test_tables(self):
        self.assertEqual(self.TABLE, (0, 0, 1, 1, 0, 1, 1, 2))
        self.assertIsNone(accept_group_table(self.OWED, self.TABLE))
        table = self.TABLE
        for value in (None, 5, (), "abcdefgh", table[:-1], table + (2,), list(table), table[:-1] + (None,), table[:-1] + ("2",),
                      (False,) + table[1:], table[:2] + (True,) + table[3:], ((),) * 8, table[:-1] + ((2,),)):
            self.wrong_paper("form", accept_group_table, self.OWED, value)
            self.wrong_paper("form", accept_payments, self.OWED, None, value)
        for place, entry in enumerate(table):
            for wrong in (entry + 1, entry - 1, 10 ** 40, -10 ** 40):
                value = table[:place] + (wrong,) + table[place + 1:]
                self.wrong_paper("entry", accept_group_table, self.OWED, value)
                self.wrong_paper("entry", accept_payments, self.OWED, None, value)
        for value in [*VALUES, *damaged(table)]:
            self.assertRaises(PaperError, accept_group_table, self.OWED, value)

    def rejects(self, reason, *values):
        for value in values:
            self.wrong_paper(reason, accept_payments, self.OWED, value, self.TABLE)

    def test_payments(self):
        self.assertIsNone(accept_payments(self.OWED, ((0, 2, 5),), self.TABLE))
        self.rejects("payments", None, 5, "a", [(0, 2, 5)], (0, 2, 5), ((0, 2),), ((0, 2, 5, 0),), ((0, 3, 5),), ((3, 2, 5),), ((-1, 2, 5),), ((0, -1, 5),),
                     ((0, 2, 0),), ((0, 2, -5),), ((False, 2, 5),), ((0, 2, True),), ((0, 2, None),), ((0, 2, "5"),),
                     (["0", 2, 5],), ([0, 2, 5],), ((0, None, 5),), ((0, 2, 5), None), (("0", 2, 5),))
        self.rejects("settled", (), ((0, 2, 4),), ((0, 2, 6),), ((2, 0, 5),), ((0, 1, 5),), ((0, 2, 5), (0, 2, 5)),
                     ((1, 1, 5),), ((0, 2, 10 ** 40),))
        self.rejects("number", ((0, 2, 3), (0, 2, 2)), ((0, 1, 5), (1, 2, 5)), ((1, 2, 5), (0, 1, 5)), ((0, 2, 5), (1, 1, 7)),
                     ((0, 2, 6), (2, 0, 1)))
        self.assertIsNone(accept_payments((), (), (0,)))
        self.assertIsNone(accept_payments(((0,),), (), (0, 1)))
        self.wrong_paper("payments", accept_payments, (), ((0, 0, 1),), (0,))
        for value in [*VALUES, *damaged(((0, 2, 5),))]:
            if value != ():
                self.assertRaises(PaperError, accept_payments, self.OWED, value, self.TABLE)


if __name__ == "__main__":
    unittest.main()
