"""Points 128 to 130: days that an office plays."""

import random
import unittest

from interline.broken import broken
from interline.courses import actual
from interline.days import play, play_plan
from interline.errors import InterlineError, LogError, PaperError, SaleError, TooMany
from interline.mending import least_mend, ways
from interline.tickets import Office, reopen
from tests.samples import NET, VALUES, Case, all_journeys, damaged, net_of, random_net
from tests.test_courses import random_course
from tests.test_mending import PRICES, WRONG_PRICES, fan, told_plans, told_ways

FG = ("F", "G")
LOG = (("sell", "a", "Y", FG), ("sell", "b", "C", ("H", "I")), ("sell", "c", "Y", ("F",)))


def told_deeds(net, bookings, course, plan):
    """The deeds of point 129, word for word."""
    names = [row[0] for row in net[3]]
    told = dict(zip(names, actual(net, course)))
    breaks = broken(net, bookings, course)
    rows = dict(zip([place for place, found in enumerate(breaks) if found], plan))
    deeds = [("mend", bookings[place][0], rows[place]) for place in rows if breaks[place][0] == 0]
    for name in sorted((name for name in names if told[name]), key=lambda name: told[name][0]):
        deeds.append(("fly", name))
        for place in rows:
            leg = breaks[place][0]
            if leg and bookings[place][2][leg - 1] == name:
                deeds.append(("mend", bookings[place][0], rows[place]))
    homes = []
    for place, (name, _, journey) in enumerate(bookings):
        row = rows.get(place, journey)
        homes.append((name, row and told[row[-1]][1]))
    return tuple(deeds), tuple(homes)


def random_log(seed, net):
    """Deeds of an office that flies nothing."""
    chance = random.Random(seed)
    rows = [tuple(flight[0] for flight in row) for row in all_journeys(net)]
    office = Office(net)
    for number in range(30):
        try:
            word = chance.choice(("sell", "sell", "sell", "change", "refund", "mend"))
            name = f"p{chance.randrange(number + 1)}"
            if word == "sell":
                office.sell(f"p{number}", chance.choice(net[2]), chance.choice(rows))
            elif word == "change":
                office.change(name, chance.choice(rows))
            elif word == "refund" and chance.random() < 0.3:
                office.refund(name)
            elif word == "mend":
                office.mend(name, chance.choice((None, chance.choice(rows), chance.choice(rows))))
        except SaleError:
            pass
    return office


class PlayTest(Case):

    def test_a_day_without_events(self):
        self.assertEqual(play(NET, LOG, (), PRICES), (
            0, (("fly", "F"), ("fly", "H"), ("fly", "G"), ("fly", "I"), ("fly", "J")),
            ((440, 322, 118, 0, 0), (440, 155, 285, 0, 0), (440, 133, 307, 0, 0), (440, 0, 440, 0, 0), (440, 0, 440, 0, 0)),
            (("a", 300), ("b", 290), ("c", 160))))
        self.assertEqual(play(NET, (), (("cancel", "F"),), PRICES), (
            0, (("fly", "H"), ("fly", "I")), ((0, 0, 0, 0, 0),) * 2, ()))
        self.assertEqual(play(NET, LOG[:1] + (("refund", "a"),), (("cancel", "F"), ("cancel", "H")), PRICES),
                         (0, (), (), ()))

    def test_money_back_and_ways(self):
        # a is broken at the first flight and finds a way by D; c finds none, and gets the money back.
        cost, deeds, ledgers, homes = play(NET, LOG, (("cancel", "F"),), PRICES)
        self.assertEqual(cost, 70)
        self.assertEqual(deeds, (("mend", "a", ("H", "I")), ("mend", "c", None), ("fly", "H"), ("fly", "I")))
        self.assertEqual(ledgers, ((440, 440, 0, 0, 0), (390, 390, 0, 0, 0), (390, 173, 217, 0, 0), (390, 0, 390, 0, 0)))
        self.assertEqual(homes, (("a", 290), ("b", 290), ("c", None)))

    def test_mended_behind_the_flight_before(self):
        cost, deeds, ledgers, homes = play(NET, LOG, (("cancel", "G"),), PRICES)
        self.assertEqual(cost, 70)
        self.assertEqual(deeds, (("fly", "F"), ("mend", "a", None), ("fly", "H"), ("fly", "I")))
        self.assertEqual(ledgers[1], (418, 300, 118, 0, 0))
        self.assertEqual(homes, (("a", None), ("b", 290), ("c", 160)))

    def test_several_who_are_mended_at_one_time(self):
        flights = [("F", "A", "B", 0, 60), ("G", "B", "C", 90, 150, "U"), ("H", "B", "C", 200, 260), ("I", "A", "C", 0, 400)]
        net = net_of(flights, types=(("T", 9, 0), ("U", 9, 0)), fares=(("x", "A", "C", "Y", 9, 1, 0, 0),
                                                                      ("y", "B", "C", "Y", 5, 1, 0, 0)))
        log = (("sell", "z", "Y", FG), ("sell", "m", "Y", ("G",)), ("sell", "b", "Y", FG), ("sell", "k", "Y", ("I",)))
        deeds = play(net, log, (("cancel", "G"),), ((1,), (900,)))[1]
        self.assertEqual(deeds, (("mend", "m", ("H",)), ("fly", "F"), ("mend", "z", ("H",)), ("mend", "b", ("H",)),
                                 ("fly", "I"), ("fly", "H")))
        self.assertEqual(play(net, log, (("cancel", "G"),), ((1,), (900,)))[3],
                         (("z", 260), ("m", 260), ("b", 260), ("k", 400)))

    def test_flights_of_one_departure_in_the_order_of_the_net(self):
        flights = [("z", "A", "B", 100, 150), ("a", "A", "B", 100, 140), ("m", "A", "B", 90, 130)]
        net = net_of(flights)
        self.assertEqual(play(net, (), (), ((1,), (1,)))[1], (("fly", "m"), ("fly", "z"), ("fly", "a")))
        self.assertEqual(play(net, (), (("late", "m", 10),), ((1,), (1,)))[1], (("fly", "z"), ("fly", "a"), ("fly", "m")))
        self.assertEqual(play(net, (), (("late", "z", 1),), ((1,), (1,)))[1], (("fly", "m"), ("fly", "a"), ("fly", "z")))

    def test_a_missed_flight_may_depart_first(self):
        # G departs in the course ahead of F, and its coupon is not flown.
        flights = [("F", "A", "B", 0, 60), ("G", "B", "C", 90, 150, "U"), ("H", "B", "C", 600, 660, "U")]
        net = net_of(flights, types=(("T", 9, 0), ("U", 9, 0)), fares=(("x", "A", "C", "Y", 9, 1, 0, 0),))
        log = (("sell", "a", "Y", FG),)
        told = play(net, log, (("late", "F", 200),), ((1,), (900,)))
        self.assertEqual(told[1], (("fly", "G"), ("fly", "F"), ("mend", "a", ("H",)), ("fly", "H")))
        self.assertEqual((told[0], told[2][-1], told[3]), (510, (9, 0, 9, 0, 0), (("a", 660),)))

    def test_against_the_words(self):
        seen = {"mended": 0, "back": 0, "later": 0, "kept": 0}
        for seed in range(200):
            net = random_net(seed, tails=4, longest=5, fares=40, classes=1 + seed % 2)
            prices = PRICES if seed % 2 else ((2,), (300,))
            office = random_log(seed, net)
            course = random_course(seed, net)
            log = office.log()
            if any(coupon[3] == "open" and name not in [row[0] for row in office.bookings()]
                   for name in office.names() for coupon in office.ticket(name)[1]):
                self.wrong_argument("log", play, net, log, course, prices)
                self.wrong_argument("log", play_plan, net, log, course, prices, None)
                continue
            bookings = office.bookings()
            try:
                least = least_mend(net, bookings, course, prices)[0]
            except TooMany as error:
                self.refused(TooMany, (error.reason,), play, net, log, course, prices)
                continue
            cost, deeds, ledgers, homes = play(net, log, course, prices)
            self.assertEqual(cost, least)
            rows, free = told_ways(net, bookings, course, prices)
            if len(told_plans(rows, free)) < 3000:
                plans = dict(map(reversed, told_plans(rows, free)))
                fitting = [plan for plan in plans if (deeds, homes) == told_deeds(net, bookings, course, plan)]
                self.assertEqual([plans[plan] for plan in fitting], [least])
                chosen = random.Random(seed).choice(sorted(plans, key=repr))
                self.is_played(net, log, course, prices, plans[chosen], chosen, bookings)
                self.assertEqual(play_plan(net, log, course, prices, fitting[0]), (cost, deeds, ledgers, homes))
            self.is_done(net, log, deeds, ledgers)
            seen["mended"] += any(deed[0] == "mend" and deed[2] for deed in deeds)
            seen["back"] += any(deed[0] == "mend" and deed[2] is None for deed in deeds)
            seen["later"] += any(deed[0] == "mend" and place and deeds[place - 1][0] == "fly"
                                 for place, deed in enumerate(deeds))
            seen["kept"] += len(homes) > 3
        self.assertTrue(all(many > 10 for many in seen.values()), seen)

    def is_played(self, net, log, course, prices, cost, plan, bookings):
        told = play_plan(net, log, course, prices, plan)
        deeds, homes = told_deeds(net, bookings, course, plan)
        self.assertEqual((told[0], told[1], told[3]), (cost, deeds, homes))
        self.is_done(net, log, deeds, told[2])

    def is_done(self, net, log, deeds, ledgers):
        """The office can do all deeds, with these ledgers, and behind the last one no coupon is open."""
        office = reopen(net, log)
        self.assertEqual(len(deeds), len(ledgers))
        for (word, *parts), ledger in zip(deeds, ledgers):
            getattr(office, word)(*parts)
            self.assertEqual(office.ledger(), ledger)
        states = [coupon[3] for name in office.names() for coupon in office.ticket(name)[1]]
        self.assertNotIn("open", states)
        cash, unearned, earned, fees, kept = office.ledger()
        self.assertEqual((unearned, cash), (0, earned + fees + kept))

    def test_plans(self):
        course = (("cancel", "F"),)
        told = play(NET, LOG, course, PRICES)
        self.assertEqual(play_plan(NET, LOG, course, PRICES, (("H", "I"), None)), told)
        cost, deeds, ledgers, homes = play_plan(NET, LOG, course, PRICES, (None, None))
        self.assertEqual((cost, deeds[:2]), (140, (("mend", "a", None), ("mend", "c", None))))
        self.assertEqual(homes, (("a", None), ("b", 290), ("c", None)))
        for plan in (None, 5, (), (None,), (None,) * 3, [None, None], (None, ("H", "I")), (("H",), None), (("F", "G"), None),
                     ("HI", None), (0, None), (False, None), ((), None), (None, ()), ((("H", "I"),), None)):
            self.wrong_paper("plan", play_plan, NET, LOG, course, PRICES, plan)
        for value in [*VALUES, *damaged((("H", "I"), None))]:
            self.assertRaises(PaperError, play_plan, NET, LOG, course, PRICES, value)
        self.assertEqual(play_plan(NET, LOG, (), PRICES, ()), play(NET, LOG, (), PRICES))

    def test_too_many(self):
        bookings = (("a", "Y", ("F",)), ("b", "Y", ("F",)), ("c", "Y", ("H",)))
        fares = (("x", "A", "C", "Y", 9, 3, 0, 0), ("y", "C", "Z", "Y", 9, 3, 0, 0))
        log = tuple(("sell", *row) for row in bookings)
        for seats in (1, 2):
            net = fan(4, 5, 3, (9, seats))[:5] + (fares,)
            if seats == 2:
                self.refused(TooMany, ("choices",), play, net, log, (("cancel", "F"),), ((0,), (0,)))
            else:
                self.assertEqual(play(net, log, (("cancel", "F"),), ((0,), (0,)))[0], 0)
            self.assertEqual(play_plan(net, log, (("cancel", "F"),), ((0,), (0,)), (None,) * 3)[0], 0)
        net = fan(7, 8, 4)[:5] + (fares,)
        for function, rest in ((play, ()), (play_plan, (None,))):
            self.refused(TooMany, ("ways",), function, net, log[:1], (("cancel", "F"),), ((0,), (0,)), *rest)
            self.wrong_argument("prices", function, net, log[:1], (("cancel", "F"),), None, *rest)
        self.assertRaises(TooMany, ways, net, bookings[:1], (("cancel", "F"),), ((0,), (0,)))

    def test_logs_that_do_not_fit(self):
        # Two flights that make no journey, by their times.
        flights = [("p", "A", "B", 100, 150), ("q", "B", "C", 120, 170), ("r", "A", "C", 0, 50)]
        net = net_of(flights, fares=(("x", "A", "C", "Y", 7, 0, 5, 50),))
        log = (("sell", "a", "Y", ("r",)), ("mend", "a", ("p", "q")))
        for function, rest in ((play, (None, None)), (play_plan, (None, None, None))):
            self.wrong_argument("log", function, net, log, *rest)
            self.wrong_argument("course", function, net, log + (("refund", "a"),), *rest)
            self.wrong_argument("course", function, net, log[:1], *rest)
            # A flight that is gone, whether anybody was on it or not.
            self.wrong_argument("log", function, NET, LOG + (("fly", "F"),), *rest)
            self.wrong_argument("log", function, NET, (("fly", "J"),), *rest)
            for log_of in (None, 5, [], list(LOG), "abc", True, (("fly", "X"),) * 201):
                self.wrong_argument("log", function, NET, log_of, *rest)
            self.refused(LogError, (0, "flight"), function, NET, (("fly", "X"),), *rest)
            self.refused(LogError, (3, "entry"), function, NET, LOG + (None,), *rest)
            self.refused(LogError, (1, "name"), function, NET, (LOG[0], LOG[0]), *rest)

    def test_order_of_the_errors(self):
        for function, rest in ((play, ()), (play_plan, (None,))):
            self.asks_the_net_first(function, None, None, None, *rest)
            for value in VALUES:
                if value != ():
                    self.wrong_argument("course", function, NET, LOG, value, None, *rest)
            for value in WRONG_PRICES:
                self.wrong_argument("prices", function, NET, LOG, (("cancel", "F"),), value, *rest)
            self.survives(function, (NET, LOG, (("cancel", "F"),), PRICES, *rest), InterlineError)


if __name__ == "__main__":
    unittest.main()
