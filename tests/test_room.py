"""Points 126 and 127: what may still be sold."""

import random
import unittest

from interline.book import accept_guard, guard
from interline.errors import InterlineError, PaperError, TooMany
from interline.room import accept_room, room_for
from tests.samples import NET, VALUES, Case, all_journeys, damaged, net_of, random_bookings, random_net
from tests.test_book import NET1, WRONG_BOUNDS, WRONG_NUMBERS, WRONG_THREATS
from tests.test_broken import WRONG_BOOKINGS
from tests.test_courses import line, random_course, threats_of
from tests.test_mending import PRICES, WRONG_PRICES, fan
from tests.test_promises import WRONG_JOURNEYS

MONEY = ((1,), (500,))
# F and G have two seats each, H comes much later; where F is cancelled, its travellers are late by 90 on G.
BASE = (NET1, (), (("cancel", "F"),), 1, MONEY)


def told_room(net, bookings, threats, most, prices, bound, kind, journey, sales):
    """What point 126 tells, by asking `guard` for the bookings one by one."""
    names = [row[0] for row in bookings]
    number = 0
    sold = 0
    while True:
        answer = guard(net, bookings, threats, most, prices, bound)
        if answer[0] == "broken":
            return (sold - 1, answer)
        if sold == sales or len(bookings) == 60:
            return (sold, None)
        while str(number) in names:
            number += 1
        bookings += ((str(number), kind, journey),)
        number += 1
        sold += 1


class RoomTest(Case):

    def test_none_some_and_all(self):
        # Two travellers find seats on G at 90 each, the third one flies on H at 240; F itself has two seats.
        for bound, told in ((0, 0), (89, 0), (90, 1), (179, 1), (180, 2), (419, 2), (420, 3)):
            number, answer = room_for(*BASE, bound, "Y", ("F",), 9)
            self.assertEqual((number, answer[0]), (told, "broken"))
        self.assertEqual(room_for(*BASE, 90, "Y", ("F",), 9)[1], ("broken", (("cancel", "F"),), ()))
        self.assertEqual(room_for(*BASE, 90, "Y", ("F",), 1), (1, None))
        self.assertEqual(room_for(*BASE, 0, "Y", ("F",), 0), (0, None))
        self.assertEqual(room_for(*BASE, 10 ** 9, "Y", ("F",), 5), (5, None))
        self.assertEqual(room_for(*BASE[:2], (), 0, MONEY, 0, "Y", ("G",), 9), (2, ("broken", (), ())))

    def test_the_book_does_not_close_without_any(self):
        bookings = (("a", "Y", ("F",)),)
        self.assertEqual(room_for(NET1, bookings, *BASE[2:], 89, "Y", ("F",), 9),
                         (-1, ("broken", (("cancel", "F"),), ())))
        self.assertEqual(room_for(NET1, bookings, *BASE[2:], 89, "Y", ("F",), 0)[0], -1)
        self.assertIsNone(accept_room(NET1, bookings, *BASE[2:], 89, "Y", ("F",), 9,
                                      (-1, ("broken", (("cancel", "F"),), ()))))

    def test_names_are_numerals_that_no_booking_has(self):
        # The last sold are bumped first, whatever they are called; three travellers are too many.
        for names in (("0", "1"), ("1", "0"), ("2", "0"), ("00", "-1"), ("5", "01")):
            bookings = tuple((name, "Y", ("G",)) for name in names)
            number, answer = room_for(NET1, bookings, (), 0, MONEY, 150, "Y", ("G",), 5)
            self.assertEqual((number, answer), (1, ("broken", (), ())))
            self.assertEqual((number, answer), told_room(NET1, bookings, (), 0, MONEY, 150, "Y", ("G",), 5))

    def test_at_most_sixty_bookings(self):
        net = net_of([("F", "A", "B", 0, 60)], types=(("T", 60, 0),))
        bookings = tuple((str(place), "Y", ("F",)) for place in range(58))
        self.assertEqual(room_for(net, bookings, (), 0, MONEY, 10 ** 9, "Y", ("F",), 60), (2, None))
        self.assertEqual(room_for(net, bookings, (), 0, MONEY, 10 ** 9, "Y", ("F",), 1), (1, None))
        bookings += (("x", "Y", ("F",)), ("y", "Y", ("F",)))
        self.assertEqual(room_for(net, bookings, (), 0, MONEY, 10 ** 9, "Y", ("F",), 60), (0, None))
        self.assertEqual(room_for(net, (), (), 0, MONEY, 10 ** 9, "Y", ("F",), 60), (60, None))
        self.assertIsNone(accept_room(net, bookings, (), 0, MONEY, 10 ** 9, "Y", ("F",), 60, (0, None)))
        self.wrong_paper("number", accept_room, net, bookings, (), 0, MONEY, 10 ** 9, "Y", ("F",), 60, (1, None))

    def test_against_the_words(self):
        seen = {}
        for seed in range(100):
            chance = random.Random(seed)
            net = random_net(seed, tails=4, longest=5)
            bookings = random_bookings(seed, net, 4)
            bookings = tuple((chance.choice(("", "x")) + str(place), *row[1:]) for place, row in enumerate(bookings))
            threats = tuple(dict.fromkeys(random_course(seed, net)))
            journey = tuple(flight[0] for flight in chance.choice(all_journeys(net)))
            arguments = (net, bookings, threats, 1, PRICES, chance.choice((0, 150, 800)), chance.choice(net[2]), journey,
                         chance.randint(0, 4))
            try:
                told = told_room(*arguments)
            except TooMany as error:
                self.refused(TooMany, (error.reason,), room_for, *arguments)
                continue
            self.assertEqual(room_for(*arguments), told)
            self.assertIsNone(accept_room(*arguments, told))
            key = "all" if told[1] is None else min(told[0], 1)
            seen[key] = seen.get(key, 0) + 1
        self.assertTrue(all(seen.get(key, 0) > 5 for key in (-1, 0, 1, "all")), seen)

    def test_too_many(self):
        threats = threats_of((2, 2, 2, 2, 1, 1, 1, 1))
        self.refused(TooMany, ("courses",), room_for, line(8), (), threats, 3, MONEY, 0, "Y", ("f0",), 1)
        # The courses are too many ahead of all that a paper may be.
        self.refused(TooMany, ("courses",), accept_room, line(8), (), threats, 3, MONEY, 0, "Y", ("f0",), 1, None)
        self.wrong_argument("sales", room_for, line(8), (), threats, 3, MONEY, 0, "Y", ("f0",), 61)
        net = fan(7, 8, 4)
        arguments = (net, (), (("cancel", "F"),), 1, ((1,), (7,)), 7, "Y", ("F",), 1)
        self.refused(TooMany, ("ways",), room_for, *arguments)
        self.refused(TooMany, ("ways",), accept_room, *arguments, (0, ("broken", (("cancel", "F"),), ())))
        self.wrong_paper("form", accept_room, *arguments, (0, None, None))
        self.wrong_paper("number", accept_room, *arguments, (0, None))

    def test_order_of_the_errors(self):
        for function, rest in ((room_for, (None,) * 4), (accept_room, (None,) * 5)):
            self.asks_the_net_first(function, None, None, None, None, *rest)
            for value in WRONG_BOOKINGS:
                self.wrong_argument("bookings", function, NET, value, None, 9, None, *rest)
            for value in WRONG_THREATS:
                self.wrong_argument("threats", function, NET1, (), value, 9, None, *rest)
            for value in WRONG_NUMBERS:
                self.wrong_argument("events", function, NET1, (), (), value, None, *rest)
            for value in WRONG_PRICES:
                self.wrong_argument("prices", function, NET, (), (), 0, value, *rest)
            for value in WRONG_BOUNDS:
                self.wrong_argument("bound", function, NET, (), (), 0, PRICES, value, *rest[1:])
            for value in (*VALUES, "T", ["Y"]):
                if value != "Y":
                    self.wrong_argument("class", function, NET, (), (), 0, PRICES, 0, value, *rest[2:])
            for value in WRONG_JOURNEYS:
                self.wrong_argument("journey", function, NET, (), (), 0, PRICES, 0, "Y", value, *rest[3:])
            for value in (-1, 61, None, True, False, "1", (), 10 ** 40):
                self.wrong_argument("sales", function, NET, (), (), 0, PRICES, 0, "Y", ("F",), value, *rest[4:])
        self.survives(room_for, (*BASE, 90, "Y", ("F",), 2), InterlineError)
        self.survives(accept_room, (*BASE, 90, "Y", ("F",), 2, room_for(*BASE, 90, "Y", ("F",), 2)), InterlineError)


class AcceptRoomTest(Case):

    ARGUMENTS = (*BASE, 90, "Y", ("F",), 3)

    def rejects(self, reason, *values):
        for value in values:
            self.wrong_paper(reason, accept_room, *self.ARGUMENTS, value)

    def test_fewer_sales_are_not_looked_at(self):
        told = (1, ("broken", (("cancel", "F"),), ()))
        self.assertEqual(room_for(*self.ARGUMENTS), told)
        self.assertIsNone(accept_room(*self.ARGUMENTS, told))
        # Two sales break the book, and so do three.
        self.assertIsNone(accept_room(*self.ARGUMENTS, (2, ("broken", (("cancel", "F"),), ()))))
        self.assertIsNone(accept_room(*self.ARGUMENTS, (3, None)))
        self.rejects("paper", (0, ("broken", (("cancel", "F"),), ())), (-1, ("broken", (("cancel", "F"),), ())))

    def test_errors(self):
        answer = ("broken", (("cancel", "F"),), ())
        self.rejects("form", None, 5, (), (1,), (1, answer, 0), [1, answer], (True, answer), (None, answer), ("1", answer),
                     ((1,), answer), (False, None))
        self.rejects("number", (-2, answer), (4, answer), (4, None), (3, answer), (2, None), (0, None), (-1, None), (-2, None),
                     (10 ** 40, None), (3, 5), (7, 5))
        self.rejects("form", (1, 5), (1, ()), (1, answer[:2]), (1, answer + (0,)), (1, list(answer)), (1, "abc"), (0, True))
        book = guard(*BASE[:1], (("0", "Y", ("F",)), ("1", "Y", ("F",))), *BASE[2:], 180)
        self.rejects("form", (1, book), (1, ("kept", book[1], ())), (1, ("open", (), ())))
        self.rejects("course", (1, ("broken", (("cancel", "G"),), ())), (1, ("broken", None, ())), (1, ("broken", 5, 5)))
        self.rejects("paper", (1, ("broken", (("cancel", "F"),), None)), (1, ("broken", (("cancel", "F"),), ((),))),
                     (1, ("broken", (), ())), (0, answer))

    def test_the_answer_is_for_one_sale_more(self):
        arguments = (*BASE, 329, "Y", ("F",), 3)
        bookings = (("c", "Y", ("G",)),)
        arguments = (NET1, bookings, *BASE[2:], 329, "Y", ("F",), 3)
        number, answer = room_for(*arguments)
        self.assertEqual((number, answer), (1, ("broken", (("cancel", "F"),), ((), (), ()))))
        sold = bookings + (("0", "Y", ("F",)), ("1", "Y", ("F",)))
        self.assertIsNone(accept_guard(NET1, sold, *BASE[2:], 329, answer))
        self.assertIsNone(accept_room(*arguments, (1, answer)))
        self.wrong_paper("paper", accept_room, *arguments, (0, answer))
        for value in [*VALUES, *damaged((number, answer))]:
            if value == (2, answer):
                continue
            self.assertRaises(PaperError, accept_room, *arguments, value)

    def test_further_bookings_stand_behind(self):
        # Of one seat too few the last sold one is bumped, so the further sale needs the way.
        net = net_of([("F", "A", "B", 0, 60), ("G", "A", "B", 90, 150)], types=(("T", 1, 0),), classes=("C", "Y"))
        bookings = (("a", "Y", ("F",)),)
        for kind, cost in (("Y", 90), ("C", 90 * 1)):
            prices = ((7, 1), (900, 900))
            number, answer = room_for(net, bookings, (), 0, prices, cost, kind, ("F",), 1)
            self.assertEqual((number, answer), (1, None))
            self.assertEqual(room_for(net, bookings, (), 0, prices, cost - 1, kind, ("F",), 1)[0], 0)


if __name__ == "__main__":
    unittest.main()
