"""Points 44 to 49: an office, its tickets and its ledger."""

import random
import unittest

from interline.errors import InterlineError, LogError, NetError, SaleError
from interline.fares import construct, shares
from interline.tickets import Office, reopen, takings
from interline.words import read_net
from tests.samples import NET, VALUES, Case, all_journeys, net_of, random_net, with_part, with_value

FG = ("F", "G")


def snapshot(office):
    """All that can be asked of an office."""
    names = office.names()
    return (office.ledger(), names, tuple(office.ticket(name) for name in names), office.bookings(), office.log())


class Told:
    """Points 45 to 48, word for word, over plain dicts."""

    def __init__(self, net):
        self.net = net
        self.flights = {row[0]: row for row in net[3]}
        self.fares = {row[0]: row for row in net[5]}
        self.journeys = {tuple(flight[0] for flight in row) for row in all_journeys(net)}
        self.tickets = {}
        self.gone = set()
        self.cash = self.earned = self.fees = self.kept = 0

    def ledger(self):
        """The sums, with what is unearned counted anew."""
        coupons = [coupon for _, rows in self.tickets.values() for coupon in rows]
        unearned = sum(coupon[1] for coupon in coupons if coupon[3] == "open")
        self.check_earned = sum(coupon[1] for coupon in coupons if coupon[3] == "flown")
        return (self.cash, unearned, self.earned, self.fees, self.kept)

    def opened(self, name):
        return [coupon for coupon in self.tickets[name][1] if coupon[3] == "open"]

    def journey_reason(self, name, cabin, journey):
        if journey not in self.journeys:
            return "journey"
        if set(journey) & self.gone:
            return "gone"
        ranks = self.net[2]
        for flight in journey:
            for rank, limit in enumerate(self.flights[flight][7]):
                if rank <= ranks.index(cabin):
                    held = [other for other, (kind, coupons) in self.tickets.items()
                            if other != name and ranks.index(kind) >= rank
                            and flight in [coupon[0] for coupon in coupons if coupon[3] == "open"]]
                    if limit - len(held) < 1:
                        return "seats"
        if construct(self.net, journey, cabin) is None:
            return "fare"
        return None

    def coupons(self, cabin, journey):
        _, parts = construct(self.net, journey, cabin)
        rows = []
        for size, fare in parts:
            mine = journey[len(rows):len(rows) + size]
            split = shares(self.fares[fare][4], tuple(self.flights[flight][6] for flight in mine))
            rows += [[flight, value, fare, "open"] for flight, value in zip(mine, split)]
        return rows

    def reason(self, word, *parts):
        if word == "fly":
            return None if parts[0] in self.flights and parts[0] not in self.gone else "flight"
        if word == "sell":
            name, cabin, journey = parts
            if name in self.tickets:
                return "name"
            if len(self.tickets) == 60:
                return "many"
            return self.journey_reason(name, cabin, journey)
        name = parts[0]
        if name not in self.tickets:
            return "unknown"
        if word == "change" and "flown" in [coupon[3] for coupon in self.tickets[name][1]]:
            return "flown"
        if not self.opened(name):
            return "open"
        if word == "change":
            return self.journey_reason(name, self.tickets[name][0], parts[1])
        if word == "mend" and parts[1] is not None:
            return self.row_reason(name, parts[1])
        return None

    def row_reason(self, name, row):
        held = self.opened(name)
        wanted = (self.flights[held[0][0]][1], self.flights[held[-1][0]][2])
        if not 1 <= len(row) <= 4 or len(set(row)) != len(row):
            return "journey"
        if any(self.flights[one][2] != self.flights[two][1] for one, two in zip(row, row[1:])):
            return "journey"
        if (self.flights[row[0]][1], self.flights[row[-1]][2]) != wanted:
            return "journey"
        return "gone" if set(row) & self.gone else None

    def do(self, word, *parts):
        return getattr(self, word)(*parts)

    def sell(self, name, cabin, journey):
        coupons = self.coupons(cabin, journey)
        self.tickets[name] = (cabin, coupons)
        price = sum(coupon[1] for coupon in coupons)
        assert price == construct(self.net, journey, cabin)[0]
        self.cash += price
        return price

    def fly(self, flight):
        self.gone.add(flight)
        names = []
        for name in self.tickets:
            held = self.opened(name)
            if held and held[0][0] == flight:
                held[0][3] = "flown"
                self.earned += held[0][1]
                names.append(name)
        return tuple(names)

    def change(self, name, journey):
        cabin, coupons = self.tickets[name]
        held = self.opened(name)
        value = sum(coupon[1] for coupon in held)
        price = construct(self.net, journey, cabin)[0]
        fee = max(self.fares[coupon[2]][6] if coupon[2] else 0 for coupon in held)
        new = self.coupons(cabin, journey)
        for coupon in held:
            coupon[3] = "changed"
        coupons += new
        paid = fee + (price - value if price > value else 0)
        self.cash += paid
        self.fees += fee
        self.kept += value - price if price < value else 0
        return paid

    def refund(self, name):
        back = 0
        for coupon in self.opened(name):
            coupon[3] = "back"
            given = coupon[1] * (self.fares[coupon[2]][7] if coupon[2] else 100) // 100
            back += given
            self.kept += coupon[1] - given
        self.cash -= back
        return back

    def mend(self, name, row):
        held = self.opened(name)
        value = sum(coupon[1] for coupon in held)
        for coupon in held:
            coupon[3] = "back" if row is None else "mended"
        if row is None:
            self.cash -= value
        else:
            split = shares(value, tuple(self.flights[flight][6] for flight in row))
            self.tickets[name][1].extend([flight, part, None, "open"] for flight, part in zip(row, split))
        return value

    def bookings(self):
        rows = [(name, cabin, tuple(coupon[0] for coupon in self.opened(name)))
                for name, (cabin, _) in self.tickets.items()]
        return tuple(row for row in rows if row[2] in self.journeys)


def random_deed(chance, net, rows, told):
    word = chance.choice(("sell", "sell", "sell", "fly", "change", "change", "refund", "mend", "mend"))
    name = f"p{chance.randrange(9)}"
    if word == "sell":
        return (word, name, chance.choice(net[2]), chance.choice(rows))
    if word == "fly":
        return (word, chance.choice(net[3])[0])
    if word == "refund":
        return (word, name)
    if word == "change":
        return (word, name, chance.choice(rows))
    flights = [row[0] for row in net[3]]
    fitting = [row for row in rows if name in told.tickets and told.opened(name)
               and told.row_reason(name, row) in (None, "gone")]
    if fitting and chance.random() < 0.6:
        return (word, name, chance.choice(fitting))
    return (word, name, chance.choice([None, chance.choice(rows), tuple(chance.sample(flights, 2))]))


class OfficeTest(Case):

    def setUp(self):
        self.office = Office(NET)

    def refuses(self, reason, word, *parts, office=None):
        """The deed is refused for this reason, and nothing changes."""
        office = office or self.office
        before = snapshot(office)
        self.refused(SaleError, (reason,), getattr(office, word), *parts)
        self.assertEqual(snapshot(office), before)

    def test_example(self):
        text = ("(station A 0 30) (station B 0 30) (type T 9 20) (classes Y)"
                "(flight F A B 0 60 T 100 (limits 9)) (tail N T F) (fare X A B Y 70 0 10 50)")
        office = Office(read_net(text))
        self.assertEqual((office.sell("Ann", "Y", ("F",)), office.refund("Ann"), office.ledger()),
                         (70, 35, (35, 0, 0, 0, 35)))

    def test_nets(self):
        self.refused(NetError, ((), "shape"), Office, None)
        self.refused(NetError, ((2,), "many"), Office, ((), (), (), (), (), ()))
        for value in VALUES:
            self.refused(NetError, ((), "shape"), Office, value)
        self.assertEqual(snapshot(self.office), ((0, 0, 0, 0, 0), (), (), (), ()))

    def test_sell(self):
        office = self.office
        # The fares fl and gl together cost as much as ac, which has fewer parts.
        self.assertEqual(office.sell("a", "Y", FG), 90)
        self.assertEqual(office.ticket("a"), ("Y", (("F", 68, "ac", "open"), ("G", 22, "ac", "open"))))
        self.assertEqual(office.sell("b c", "C", ("H", "I")), 300)
        self.assertEqual(office.ticket("b c"), ("C", (("H", 167, "cc", "open"), ("I", 133, "cc", "open"))))
        self.assertEqual(office.sell("", "Y", ("F",)), 50)
        self.assertEqual(office.ledger(), (440, 440, 0, 0, 0))
        self.assertEqual(office.names(), ("a", "b c", ""))
        self.assertEqual(office.bookings(), (("a", "Y", FG), ("b c", "C", ("H", "I")), ("", "Y", ("F",))))
        self.assertEqual(office.log(), (("sell", "a", "Y", FG), ("sell", "b c", "C", ("H", "I")),
                                        ("sell", "", "Y", ("F",))))

    def test_fares_over_several_flights(self):
        flights = [(name, start, end, depart, depart + 50) for name, start, end, depart in
                   (("p", "A", "B", 0), ("q", "B", "C", 100), ("r", "C", "D", 200), ("s", "D", "E", 300))]
        net = net_of(flights, fares=(("x", "A", "D", "Y", 100, 2, 7, 33), ("y", "D", "E", "Y", 11, 0, 9, 10),
                                     ("z", "A", "E", "Y", 200, 3, 0, 0)))
        for place, distance in enumerate((1, 1, 1, 5)):
            net = with_value(net, 3, place, 6, distance)
        office = Office(net)
        self.assertEqual(office.sell("a", "Y", ("p", "q", "r", "s")), 111)
        self.assertEqual(office.ticket("a")[1], (("p", 34, "x", "open"), ("q", 33, "x", "open"),
                                                 ("r", 33, "x", "open"), ("s", 11, "y", "open")))
        # 34 * 33 // 100 + 2 * (33 * 33 // 100) + 11 * 10 // 100
        self.assertEqual(office.refund("a"), 11 + 10 + 10 + 1)
        self.assertEqual(office.ledger(), (79, 0, 0, 0, 79))
        self.assertEqual(office.sell("b", "Y", ("p", "q", "r", "s")), 111)
        self.assertEqual(office.change("b", ("s",)), 9)
        self.assertEqual(office.ledger(), (79 + 111 + 9, 11, 0, 9, 79 + 100))

    def test_reasons_of_sell(self):
        office = self.office
        office.sell("a", "Y", ("F",))
        for name in ("a", None, 5, True, ("a",), ["a"]):
            self.refuses("name", "sell", name, "X", ("X",))
        for cabin in ("X", None, 0, ("Y",), ["Y"], "y", True):
            self.refuses("class", "sell", "b", cabin, ("X",))
        for journey in ((), ("X",), "F", ["F"], None, 5, ("F", "I"), ("G", "F"), (("F",),), ("F", "F"), (1,)):
            self.refuses("journey", "sell", "b", "Y", journey)
        # F has two places for the class Y, J none.
        office.sell("b", "Y", ("F",))
        self.refuses("seats", "sell", "c", "Y", ("F",))
        self.refuses("seats", "sell", "c", "Y", FG)
        self.refuses("seats", "sell", "c", "Y", ("J",))
        self.refuses("fare", "sell", "c", "C", ("F",))
        self.refuses("fare", "sell", "c", "Y", ("H",))
        office.fly("F")
        self.refuses("gone", "sell", "c", "Y", ("F",))
        self.refuses("gone", "sell", "c", "C", FG)
        self.refuses("journey", "sell", "c", "C", ("F", "J"))

    def test_names_are_used_once(self):
        self.office.sell("a", "Y", ("F",))
        self.office.refund("a")
        self.refuses("name", "sell", "a", "Y", ("F",))
        self.office.sell("b", "Y", ("F",))
        self.office.fly("F")
        self.refuses("name", "sell", "b", "Y", ("G",))

    def test_at_most_so_many_tickets(self):
        net = with_value(NET, 3, 0, 7, (99, 99))
        office = Office(net)
        for number in range(60):
            office.sell(str(number), "Y", ("F",))
        self.refuses("many", "sell", "x", "Y", ("X",), office=office)
        self.refuses("class", "sell", "x", "X", ("F",), office=office)
        self.refuses("name", "sell", "5", "Y", ("F",), office=office)
        office.refund("7")
        self.refuses("many", "sell", "x", "Y", ("F",), office=office)
        self.assertEqual(office.ledger(), (2975, 2950, 0, 0, 25))

    def test_nested_limits(self):
        net = with_value(with_part(NET, 5, NET[5] + (("fc", "A", "B", "C", 70, 0, 0, 0),)), 3, 0, 7, (2, 1))
        office = Office(net)
        office.sell("a", "Y", ("F",))
        self.refuses("seats", "sell", "b", "Y", ("F",), office=office)
        office.sell("b", "C", ("F",))
        self.refuses("seats", "sell", "c", "C", ("F",), office=office)
        # Coupons that are not open take no seat.
        office.refund("b")
        office.sell("c", "C", ("F",))
        office.mend("a", None)
        office.sell("d", "Y", ("F",))
        self.refuses("seats", "sell", "e", "Y", ("F",), office=office)

    def test_fly(self):
        office = self.office
        office.sell("a", "Y", FG)
        office.sell("b", "Y", ("G",))
        office.sell("c", "Y", ("F",))
        self.assertEqual(office.fly("F"), ("a", "c"))
        self.assertEqual(office.ledger(), (180, 62, 118, 0, 0))
        self.assertEqual(office.ticket("a")[1], (("F", 68, "ac", "flown"), ("G", 22, "ac", "open")))
        self.assertEqual(office.bookings(), (("a", "Y", ("G",)), ("b", "Y", ("G",))))
        self.assertEqual(office.fly("H"), ())
        self.assertEqual(office.fly("G"), ("a", "b"))
        self.assertEqual(office.ledger(), (180, 0, 180, 0, 0))
        for flight in ("F", "G", "H", "X", None, 5, ("I",), ["I"], True):
            self.refuses("flight", "fly", flight)
        self.assertEqual(office.log()[3:], (("fly", "F"), ("fly", "H"), ("fly", "G")))

    def test_fly_where_the_coupon_is_not_the_first_open_one(self):
        office = self.office
        office.sell("a", "Y", FG)
        office.sell("b", "Y", ("G",))
        self.assertEqual(office.fly("G"), ("b",))
        self.assertEqual(office.ticket("a")[1], (("F", 68, "ac", "open"), ("G", 22, "ac", "open")))
        self.assertEqual(office.ledger(), (130, 90, 40, 0, 0))
        self.assertEqual(office.fly("F"), ("a",))
        # The coupon for a flight that is gone stays open.
        self.assertEqual(office.ticket("a")[1][1][3], "open")
        self.assertEqual(office.bookings(), (("a", "Y", ("G",)),))
        self.assertEqual(office.refund("a"), 0)
        self.assertEqual(office.ledger(), (130, 0, 108, 0, 22))

    def test_change(self):
        office = self.office
        office.sell("a", "Y", ("F",))
        # A greater price: 40 more and the fee of fl.
        self.assertEqual(office.change("a", FG), 50)
        self.assertEqual(office.ticket("a")[1], (("F", 50, "fl", "changed"), ("F", 68, "ac", "open"),
                                                 ("G", 22, "ac", "open")))
        self.assertEqual(office.ledger(), (100, 90, 0, 10, 0))
        # A lesser price: 50 is kept, and the fee of ac is paid.
        self.assertEqual(office.change("a", ("G",)), 20)
        self.assertEqual(office.ledger(), (120, 40, 0, 30, 50))
        # The same price.
        self.assertEqual(office.change("a", ("G",)), 0)
        self.assertEqual(office.ledger(), (120, 40, 0, 30, 50))
        self.assertEqual(office.ticket("a")[1][2:], (("G", 22, "ac", "changed"), ("G", 40, "gl", "changed"),
                                                     ("G", 40, "gl", "open")))
        self.assertEqual(office.bookings(), (("a", "Y", ("G",)),))
        self.assertEqual(office.log()[1:], (("change", "a", FG), ("change", "a", ("G",)), ("change", "a", ("G",))))

    def test_the_greatest_fee_counts_once(self):
        net = with_part(NET, 5, (("fl", "A", "B", "Y", 5, 0, 10, 50), ("gl", "B", "C", "Y", 4, 0, 3, 100)))
        office = Office(net)
        office.sell("a", "Y", FG)
        self.assertEqual(office.change("a", ("F",)), 10)
        self.assertEqual(office.ledger(), (19, 5, 0, 10, 4))

    def test_change_to_a_full_flight_of_its_own(self):
        office = self.office
        office.sell("a", "Y", FG)
        office.sell("b", "Y", ("F",))
        self.refuses("seats", "sell", "c", "Y", ("F",))
        self.assertEqual(office.change("a", ("F",)), 20)
        self.assertEqual(office.change("a", FG), 10 + 40)
        self.refuses("seats", "sell", "c", "Y", ("F",))

    def test_change_of_coupons_without_a_fare(self):
        office = self.office
        office.sell("a", "Y", FG)
        office.mend("a", ("H", "I"))
        self.assertEqual(office.change("a", ("F",)), 0)
        self.assertEqual(office.ledger(), (90, 50, 0, 0, 40))
        self.assertEqual([coupon[3] for coupon in office.ticket("a")[1]],
                         ["mended", "mended", "changed", "changed", "open"])

    def test_reasons_of_change(self):
        office = self.office
        office.sell("a", "Y", FG)
        office.sell("b", "Y", ("G",))
        office.sell("c", "C", ("H", "I"))
        office.refund("b")
        for name in ("x", None, 5, ("a",), ["a"], True):
            self.refuses("unknown", "change", name, ("X",))
        self.refuses("open", "change", "b", ("X",))
        self.refuses("journey", "change", "a", ("X",))
        self.refuses("seats", "change", "a", ("J",))
        self.refuses("fare", "change", "a", ("H",))
        self.refuses("fare", "change", "c", ("F",))
        office.fly("G")
        self.refuses("gone", "change", "a", FG)
        office.fly("F")
        self.refuses("flown", "change", "a", ("X",))
        office.refund("a")
        self.refuses("flown", "change", "a", ("X",))

    def test_refund(self):
        office = Office(with_value(with_value(NET, 5, 0, 4, 51), 5, 2, 4, 95))
        office.sell("a", "Y", FG)
        office.sell("b", "Y", ("F",))
        self.assertEqual(office.ticket("a")[1], (("F", 51, "fl", "open"), ("G", 40, "gl", "open")))
        # Half of 51, rounded down, and all of 40.
        self.assertEqual(office.refund("a"), 65)
        self.assertEqual(office.ledger(), (77, 51, 0, 0, 26))
        self.assertEqual([coupon[3] for coupon in office.ticket("a")[1]], ["back", "back"])
        self.assertEqual(office.bookings(), (("b", "Y", ("F",)),))
        for name in ("x", None, 5, ("a",), True):
            self.refuses("unknown", "refund", name, office=office)
        self.refuses("open", "refund", "a", office=office)
        office.fly("F")
        self.refuses("open", "refund", "b", office=office)

    def test_rounding_is_done_coupon_by_coupon(self):
        office = Office(with_value(NET, 5, 2, 7, 50))
        office.sell("a", "Y", FG)
        self.assertEqual(office.refund("a"), 34 + 11)
        office = Office(with_value(NET, 5, 2, 7, 30))
        office.sell("a", "Y", FG)
        self.assertEqual(office.refund("a"), 20 + 6)
        self.assertEqual(office.ledger(), (64, 0, 0, 0, 64))

    def test_refund_without_a_fare_and_of_what_is_left(self):
        office = self.office
        office.sell("a", "Y", FG)
        office.mend("a", ("H", "I"))
        office.fly("H")
        self.assertEqual(office.refund("a"), 40)
        self.assertEqual(office.ledger(), (50, 0, 50, 0, 0))

    def test_mend(self):
        office = self.office
        office.sell("a", "Y", FG)
        office.sell("b", "Y", FG)
        self.assertEqual(office.mend("a", ("H", "I")), 90)
        self.assertEqual(office.ticket("a"), ("Y", (
            ("F", 68, "ac", "mended"), ("G", 22, "ac", "mended"), ("H", 50, None, "open"), ("I", 40, None, "open"))))
        self.assertEqual(office.ledger(), (180, 180, 0, 0, 0))
        self.assertEqual(office.mend("b", None), 90)
        self.assertEqual([coupon[3] for coupon in office.ticket("b")[1]], ["back", "back"])
        self.assertEqual(office.ledger(), (90, 90, 0, 0, 0))
        self.assertEqual(office.log()[2:], (("mend", "a", ("H", "I")), ("mend", "b", None)))

    def test_mend_behind_a_flight(self):
        office = self.office
        office.sell("a", "Y", FG)
        office.fly("F")
        # The one of the open coupons that comes first starts at B.
        self.refuses("journey", "mend", "a", ("H", "I"))
        self.assertEqual(office.mend("a", ("G",)), 22)
        self.assertEqual(office.ticket("a")[1], (("F", 68, "ac", "flown"), ("G", 22, "ac", "mended"),
                                                 ("G", 22, None, "open")))
        self.assertEqual(office.mend("a", None), 22)
        self.assertEqual(office.ledger(), (68, 0, 68, 0, 0))

    def test_mend_asks_neither_times_nor_limits(self):
        flights = [("p", "A", "B", 100, 150, "T", (1,)), ("q", "B", "C", 120, 170, "T", (0,)),
                   ("r", "A", "C", 0, 50, "T", (9,)), ("s", "A", "B", 3000, 3100, "T", (0,))]
        net = net_of(flights, fares=(("x", "A", "C", "Y", 7, 0, 5, 50),))
        office = Office(net)
        office.sell("a", "Y", ("r",))
        office.sell("b", "Y", ("r",))
        self.assertEqual((office.mend("a", ("p", "q")), office.mend("b", ("p", "q"))), (7, 7))
        self.assertEqual(office.ticket("a")[1][1:], (("p", 4, None, "open"), ("q", 3, None, "open")))
        # What its open coupons are for is no journey, so the ticket is left out, but still it takes a seat.
        self.assertEqual(office.bookings(), ())
        self.assertEqual(office.mend("a", ("s", "q")), 7)
        self.assertEqual(office.fly("q"), ())
        self.assertEqual(office.fly("p"), ("b",))
        self.assertEqual(office.bookings(), (("b", "Y", ("q",)),))
        self.assertEqual(office.ticket("b")[1][2][3], "open")

    def test_mended_coupons_take_seats(self):
        office = self.office
        office.sell("a", "C", ("H", "I"))
        office.mend("a", FG)
        office.sell("b", "Y", FG)
        self.refuses("seats", "sell", "c", "Y", ("G",))

    def test_reasons_of_mend(self):
        office = self.office
        office.sell("a", "Y", FG)
        office.sell("b", "Y", ("F",))
        office.refund("b")
        for name in ("x", None, 5, ("a",), True):
            self.refuses("unknown", "mend", name, None)
            self.refuses("unknown", "mend", name, ("X",))
        self.refuses("open", "mend", "b", None)
        self.refuses("open", "mend", "b", ("X",))
        for row in ((), ("X",), ("F",), ("G",), ("H",), ("F", "I"), ("G", "F"), FG * 2, "F", 0, False, True, ["F", "G"],
                    ("F", 1), (None,), (("F", "G"),), ("F", "G", "J"), ("H", "I", "J")):
            self.refuses("journey", "mend", "a", row)
        office.fly("I")
        self.refuses("gone", "mend", "a", ("H", "I"))
        self.refuses("journey", "mend", "a", ("I",))
        self.assertEqual(office.mend("a", FG), 90)

    def test_rows_of_mend(self):
        flights = [("a", "A", "B", 0, 50), ("b", "B", "A", 100, 150), ("c", "A", "B", 200, 250),
                   ("d", "B", "A", 300, 350), ("e", "A", "B", 400, 450), ("f", "B", "A", 500, 550)]
        office = Office(net_of(flights, fares=(("x", "A", "B", "Y", 9, 0, 0, 0),)))
        office.sell("p", "Y", ("a",))
        self.refuses("journey", "mend", "p", ("a", "b", "c", "d", "e"), office=office)
        self.refuses("journey", "mend", "p", ("a", "b", "a"), office=office)
        self.assertEqual(office.mend("p", ("e", "b", "c")), 9)
        self.assertEqual(office.ticket("p")[1][1:], tuple((name, 3, None, "open") for name in "ebc"))
        office.sell("q", "Y", ("a",))
        self.assertEqual(office.mend("q", ("e",)), 9)

    def test_ticket(self):
        for name in ("x", None, 5, ("a",), ["a"], True):
            self.refuses("unknown", "ticket", name)

    def test_any_values(self):
        self.office.sell("a", "Y", FG)
        before = snapshot(self.office)
        for value in VALUES:
            for word, parts in (("sell", ("b", "Y", FG)), ("fly", ("F",)), ("change", ("a", FG)), ("refund", ("a",)),
                                ("mend", ("a", None)), ("ticket", ("a",))):
                for place in range(len(parts)):
                    office = reopen(NET, self.office.log())
                    told = parts[:place] + (value,) + parts[place + 1:]
                    try:
                        getattr(office, word)(*told)
                    except SaleError:
                        self.assertEqual(snapshot(office), before)

    def test_against_the_words(self):
        reasons = {}
        for seed in range(120):
            chance = random.Random(seed)
            net = random_net(seed, tails=3, longest=4, classes=1 + seed % 2, fares=30)
            rows = [tuple(flight[0] for flight in row) for row in all_journeys(net)]
            office, told = Office(net), Told(net)
            log, ledgers = [], []
            for _ in range(40):
                deed = random_deed(chance, net, rows, told)
                reason = told.reason(*deed)
                if reason:
                    reasons[deed[0], reason] = reasons.get((deed[0], reason), 0) + 1
                    self.refuses(reason, *deed, office=office)
                    self.refused(LogError, (len(log), reason), reopen, net, (*log, deed, None))
                    self.refused(LogError, (len(log), reason), takings, net, (*log, deed, None))
                    continue
                self.assertEqual(getattr(office, deed[0])(*deed[1:]), told.do(*deed))
                log.append(deed)
                ledgers.append(office.ledger())
                self.assertEqual(office.ledger(), told.ledger())
                self.assertEqual(office.ledger()[0], sum(office.ledger()[1:]))
                self.assertEqual(office.ledger()[2], told.check_earned)
            self.assertEqual(office.names(), tuple(told.tickets))
            for name, (cabin, coupons) in told.tickets.items():
                self.assertEqual(office.ticket(name), (cabin, tuple(map(tuple, coupons))))
            self.assertEqual(office.bookings(), told.bookings())
            self.assertEqual(office.log(), tuple(log))
            self.assertEqual(snapshot(reopen(net, tuple(log))), snapshot(office))
            self.assertEqual(takings(net, tuple(log)), tuple(ledgers))
        expected = {("sell", reason) for reason in ("name", "gone", "seats", "fare")} | {("fly", "flight")}
        expected |= {("change", reason) for reason in ("unknown", "flown", "open", "gone", "seats", "fare")}
        expected |= {("refund", "unknown"), ("refund", "open")}
        expected |= {("mend", reason) for reason in ("unknown", "open", "journey", "gone")}
        self.assertEqual(expected - set(reasons), set())


class LogTest(Case):

    LOG = (("sell", "a", "Y", FG), ("sell", "b", "Y", ("F",)), ("change", "b", FG), ("mend", "a", ("H", "I")),
           ("fly", "H"), ("refund", "a"), ("mend", "b", None))

    def fails(self, log, number, reason):
        self.refused(LogError, (number, reason), reopen, NET, log)
        self.refused(LogError, (number, reason), takings, NET, log)

    def test_reopen(self):
        office = Office(NET)
        for end, (word, *parts) in enumerate(self.LOG):
            self.assertEqual(snapshot(reopen(NET, self.LOG[:end])), snapshot(office))
            getattr(office, word)(*parts)
        again = reopen(NET, self.LOG)
        self.assertEqual(snapshot(again), snapshot(office))
        self.assertIsInstance(again, Office)
        self.assertEqual(again.fly("I"), office.fly("I"))
        self.assertEqual(snapshot(again), snapshot(office))

    def test_takings(self):
        self.assertEqual(takings(NET, self.LOG), (
            (90, 90, 0, 0, 0), (140, 140, 0, 0, 0), (190, 180, 0, 10, 0), (190, 180, 0, 10, 0), (190, 130, 50, 10, 0),
            (150, 90, 50, 10, 0), (60, 0, 50, 10, 0)))
        self.assertEqual(takings(NET, ()), ())
        self.assertEqual(snapshot(reopen(NET, ())), snapshot(Office(NET)))

    def test_wrong_entries(self):
        wrong = (None, 5, "sell", True, (), ("sell",), ("sell", "b", "Y"), ("sell", "b", "Y", ("F",), 0), ("fly",),
                 ("fly", "F", 1), ("change", "a"), ("change", "a", FG, 1), ("refund",), ("refund", "a", None),
                 ("mend", "a"), ("mend", "a", None, None), ("ticket", "a"), ("ledger",), ("names",), ("Sell", "b", "Y",
                 ("F",)), (("sell",), "b", "Y", ("F",)), (1, "a"), ["fly", "F"], ("cancel", "a"), (True, "a", None))
        for entry in wrong:
            self.fails((entry,), 0, "entry")
            self.fails(self.LOG + (entry,), 7, "entry")
            self.fails(self.LOG[:3] + (entry, ("fly", "X")), 3, "entry")

    def test_entries_that_cannot_be_done(self):
        self.fails((("fly", "X"),), 0, "flight")
        self.fails((("fly", ()),), 0, "flight")
        self.fails((("fly", "F"), ("fly", "F")), 1, "flight")
        self.fails((("sell", 1, 2, 3), None), 0, "name")
        self.fails((("sell", "a", 2, 3),), 0, "class")
        self.fails((("sell", "a", "Y", 3),), 0, "journey")
        self.fails((("sell", "a", "Y", ("J",)),), 0, "seats")
        self.fails((("sell", "a", "C", ("F",)),), 0, "fare")
        self.fails((("fly", "F"), ("sell", "a", "C", ("F",))), 1, "gone")
        self.fails((("change", "a", 3),), 0, "unknown")
        self.fails((("refund", None),), 0, "unknown")
        self.fails((("mend", 1, 2),), 0, "unknown")
        self.fails(self.LOG + (("refund", "a"),), 7, "open")
        self.fails(self.LOG + (("change", "a", FG),), 7, "flown")
        self.fails(self.LOG + (("change", "b", FG),), 7, "open")
        self.fails(self.LOG[:1] + (("mend", "a", ("F",)),), 1, "journey")

    def test_no_logs(self):
        for function in (reopen, takings):
            self.asks_the_net_first(function, None)
            for value in (*VALUES, [], list(self.LOG), {}):
                if not isinstance(value, tuple) or len(value) > 200:
                    self.wrong_argument("log", function, NET, value)
                elif value != ():
                    self.refused(LogError, (0, "entry"), function, NET, value)
            self.survives(function, (NET, self.LOG), InterlineError)
            for entry in self.LOG[:5]:
                self.survives(lambda *parts: function(NET, (parts,)), entry, LogError)

    def test_long_logs(self):
        log = (("sell", "a", "Y", ("G",)),) + (("change", "a", ("G",)),) * 199
        self.assertEqual(takings(NET, log), ((40, 40, 0, 0, 0),) * 200)
        for function in (reopen, takings):
            self.wrong_argument("log", function, NET, log + (("change", "a", ("G",)),))
            self.wrong_argument("log", function, NET, (None,) * 201)
        office = reopen(NET, log)
        office.fly("F")
        self.assertEqual(len(office.log()), 201)


if __name__ == "__main__":
    unittest.main()
