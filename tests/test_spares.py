"""Points 123 to 125: planes that stand by."""

import itertools
import random
import unittest

from interline.book import accept_guard, guard
from interline.courses import actual, courses
from interline.errors import InterlineError, PaperError, TooMany
from interline.mending import least_mend
from interline.spares import accept_guard_with, accept_spares, actual_with, guard_with, least_spares
from tests.samples import NET, VALUES, Case, damaged, net_of, random_bookings, random_net
from tests.test_book import MONEY, NET1, WRONG_BOUNDS, WRONG_NUMBERS, WRONG_THREATS
from tests.test_broken import WRONG_BOOKINGS
from tests.test_courses import line, random_course, threats_of
from tests.test_holds import WRONG_COURSES
from tests.test_mending import PRICES, WRONG_PRICES, fan

WRONG_OFFERS = (
    None, 5, "A", True, [], ("A", "T"), (None,), (("A",),), (("A", "T", 1),), (("X", "T"),), (("A", "X"),), (("T", "A"),),
    ((5, "T"),), (("A", 5),), (("A", None),), (["A", "T"],), [("A", "T")], ((("A",), "T"),), (("A", "T"), ("A", True)),
)

# Tail p flies from A to B, back, and to B again; tail q flies from A to C and back. Types of 9, 4 and 2 seats.
FLIGHTS = [("p1", "A", "B", 100, 160), ("p2", "B", "A", 200, 260), ("p3", "A", "B", 300, 360),
           ("q1", "A", "C", 100, 150, "U"), ("q2", "C", "A", 250, 300, "U")]
TYPES = (("T", 9, 10), ("U", 4, 0), ("S", 2, 50))
PLANES = net_of(FLIGHTS, types=TYPES)
GONE = (("cancel", "p1"), ("cancel", "q1"), ("cancel", "p3"))


def told_with(net, spares, course):
    """What points 59 and 123 tell, word for word."""
    flights = {row[0]: row for row in net[3]}
    types = {row[0]: row for row in net[1]}
    taken, free = {}, list(range(len(spares)))
    gone = [event[1] for event in course if event[0] == "cancel"]
    for name in sorted(gone, key=lambda name: (flights[name][3], name)):
        for place in free:
            if spares[place][0] == flights[name][1]:
                taken[name] = spares[place][1]
                free.remove(place)
                break
    result = {}
    for _, kind, row in net[4]:
        place = ready = least = None
        for name in row:
            _, start, end, depart, arrive, own, _, _ = flights[name]
            place = place or start
            mine = {event[0]: event for event in course if event[1] == name}
            if name in taken:
                del mine["cancel"]
                least = types[taken[name]][1]
            if "cancel" in mine or place != start:
                result[name] = None
                continue
            begin = depart + (mine["late"][2] if "late" in mine else 0)
            if ready is not None:
                begin = max(begin, ready)
            seats = types[mine["smaller"][2] if "smaller" in mine else own][1]
            result[name] = (begin, begin + (arrive - depart), seats if least is None else min(seats, least))
            place, ready = end, begin + (arrive - depart) + types[kind][2]
    return tuple(result[row[0]] for row in net[3])


def random_spares(chance, net, most):
    return tuple((chance.choice(net[0])[0], chance.choice(net[1])[0]) for _ in range(chance.randint(0, most)))


class ActualWithTest(Case):

    def test_one_spare(self):
        told = dict(zip(("p1", "p2", "p3", "q1", "q2"), actual(PLANES, ())))
        self.assertEqual(actual_with(PLANES, (("A", "S"),), GONE[:1]),
                         ((100, 160, 2), (200, 260, 2), (300, 360, 2), told["q1"], told["q2"]))
        # A spare with more seats than the tail's own type: the flights have no more than before.
        self.assertEqual(actual_with(PLANES, (("A", "T"),), GONE[1:2])[3:], ((100, 150, 4), (250, 300, 4)))
        self.assertEqual(actual_with(PLANES, (("A", "T"),), GONE[:1]), actual(PLANES, ()))
        # Only further flights of the tail have fewer seats.
        self.assertEqual(actual_with(PLANES, (("A", "S"),), GONE[2:])[:3], ((100, 160, 9), (200, 260, 9), (300, 360, 2)))
        self.assertEqual(actual_with(PLANES, (("B", "S"), ("C", "S")), GONE[:1]), actual(PLANES, GONE[:1]))

    def test_which_spare_is_taken(self):
        # p1 and q1 depart at one time, p1 is the first of both by name; p3 departs later.
        for spares, seats in (((("A", "U"), ("A", "S"), ("A", "T")), (4, 4, 9, 2, 2)),
                              ((("A", "T"), ("A", "S"), ("A", "U")), (9, 9, 4, 2, 2)),
                              ((("A", "S"), ("A", "T")), (2, 2, None, 4, 4)),
                              ((("A", "U"), ("B", "S"), ("A", "S")), (4, 4, None, 2, 2)),
                              ((("B", "U"), ("C", "S"), ("A", "S")), (2, 2, None, None, None))):
            for course in itertools.permutations(GONE):
                told = actual_with(PLANES, spares, course)
                self.assertEqual(tuple(row and row[2] for row in told), seats)

    def test_several_spares_for_one_tail(self):
        # The last one taken counts, also if it has more seats than the one before.
        course = (("cancel", "p1"), ("cancel", "p3"))
        self.assertEqual(actual_with(PLANES, (("A", "S"), ("A", "U")), course)[:3],
                         ((100, 160, 2), (200, 260, 2), (300, 360, 4)))
        self.assertEqual(actual_with(PLANES, (("A", "U"), ("A", "S")), course)[:3],
                         ((100, 160, 4), (200, 260, 4), (300, 360, 2)))
        # One spare for the first of both.
        self.assertEqual(actual_with(PLANES, (("A", "S"),), course)[:3], ((100, 160, 2), (200, 260, 2), None))

    def test_names_where_departures_are_equal(self):
        net = net_of([("b", "A", "B", 100, 160), ("a", "A", "C", 100, 150, "U")], types=TYPES)
        for course in ((("cancel", "b"), ("cancel", "a")), (("cancel", "a"), ("cancel", "b"))):
            self.assertEqual(actual_with(net, (("A", "S"),), course), (None, (100, 150, 2)))

    def test_flights_that_are_not_flown_anyway(self):
        # p2 does not start where its tail stands, but its event takes a spare.
        course = (("cancel", "p1"), ("cancel", "p2"))
        self.assertEqual(actual_with(PLANES, (("B", "S"),), course)[:3], (None, None, (300, 360, 2)))
        self.assertEqual(actual_with(PLANES, (("B", "S"), ("A", "U")), course)[:3],
                         ((100, 160, 4), (200, 260, 2), (300, 360, 2)))

    def test_other_events(self):
        course = (("cancel", "p1"), ("late", "p2", 45), ("smaller", "p3", "S"))
        self.assertEqual(actual_with(PLANES, (("A", "U"),), course)[:3], ((100, 160, 4), (245, 305, 4), (315, 375, 2)))
        # The tail keeps the turn of its own type.
        self.assertEqual(actual_with(PLANES, (("A", "S"),), course)[2][0], 315)

    def test_without_spares(self):
        for seed in range(40):
            net = random_net(seed, tails=4, longest=5)
            course = random_course(seed, net)
            self.assertEqual(actual_with(net, (), course), actual(net, course))

    def test_against_the_words(self):
        saved = 0
        for seed in range(300):
            chance = random.Random(seed)
            net = random_net(seed, tails=3, longest=5, stations=3)
            course = tuple(("cancel", event[1]) if chance.random() < 0.7 else event for event in random_course(seed, net))
            spares = random_spares(chance, net, 3)
            told = actual_with(net, spares, course)
            self.assertEqual(told, told_with(net, spares, course))
            saved += told != actual(net, course)
        self.assertGreater(saved, 60)

    def test_errors(self):
        self.asks_the_net_first(actual_with, None, None)
        for value in (*WRONG_OFFERS, (("A", "T"),) * 4):
            self.wrong_argument("spares", actual_with, NET, value, None)
        for value in WRONG_COURSES:
            self.wrong_argument("course", actual_with, NET, (("A", "T"),) * 3, value)
        self.survives(actual_with, (NET, (("A", "T"),), (("cancel", "F"),)), InterlineError)


BOOKINGS = (("a", "Y", ("p1",)), ("b", "Y", ("p1",)), ("c", "Y", ("p1",)), ("d", "Y", ("q1",)))
BASE = (PLANES, BOOKINGS, GONE[:2], 2, MONEY, 0)


class GuardWithTest(Case):

    def test_both_answers(self):
        self.assertEqual(guard(*BASE)[:2], ("broken", GONE[:1]))
        told = guard_with(*BASE, (("A", "U"), ("A", "S")))
        self.assertEqual(told, ("kept", (((), ()), (GONE[:1], ()), (GONE[1:2], ()), (GONE[:2], ()))))
        self.assertIsNone(accept_guard_with(*BASE, (("A", "U"), ("A", "S")), told))
        # With two seats alone, c finds none; p3 comes 200 minutes later.
        told = guard_with(*BASE[:5], 199, (("A", "S"), ("A", "T")))
        self.assertEqual(told, ("broken", GONE[:1], ()))
        self.assertIsNone(accept_guard_with(*BASE[:5], 199, (("A", "S"), ("A", "T")), told))
        self.assertEqual(guard_with(*BASE[:5], 200, (("A", "S"), ("A", "T")))[0], "kept")
        self.assertEqual(guard_with(*BASE, (("A", "U"),))[:2], ("broken", GONE[:2]))

    def test_without_spares_all_is_as_before(self):
        seen = set()
        for seed in range(60):
            net = random_net(seed, tails=4, longest=5)
            bookings = random_bookings(seed, net, 5)
            threats = tuple(dict.fromkeys(random_course(seed, net) + random_course(seed + 900, net)))
            for bound in (0, 100):
                arguments = (net, bookings, threats, 2, PRICES, bound)
                try:
                    told = guard(*arguments)
                except TooMany as error:
                    self.refused(TooMany, (error.reason,), guard_with, *arguments, ())
                    continue
                self.assertEqual(guard_with(*arguments, ()), told)
                self.assertIsNone(accept_guard_with(*arguments, (), told))
                seen.add(told[0])
        self.assertEqual(seen, {"kept", "broken"})

    def test_against_nets_that_fly_so(self):
        # Where spares have no fewer seats than the types, a course with them is the course without what they undo.
        changed = 0
        for seed in range(100):
            chance = random.Random(seed)
            net = random_net(seed, tails=4, longest=4, stations=3)
            best = max(net[1], key=lambda row: row[1])[0]
            spares = tuple((chance.choice(net[0])[0], best) for _ in range(chance.randint(1, 3)))
            bookings = random_bookings(seed, net, 5)
            threats = tuple(dict.fromkeys(("cancel", event[1]) for event in random_course(seed, net)))
            for bound in (0, 100):
                try:
                    told = guard_with(net, bookings, threats, 3, PRICES, bound, spares)
                except TooMany:
                    continue
                self.assertIsNone(accept_guard_with(net, bookings, threats, 3, PRICES, bound, spares, told))
                rows = courses(net, threats, 3)
                left = [self.undone(net, spares, course) for course in rows]
                broken = [course for course, rest in zip(rows, left)
                          if guard(net, bookings, rest, 3, PRICES, bound)[0] == "broken"
                          and self.breaks(net, bookings, rest, bound)]
                self.assertEqual(told[0], "broken" if broken else "kept")
                if broken:
                    self.assertEqual(told[1], broken[0])
                    changed += guard(net, bookings, threats, 3, PRICES, bound)[1] != broken[0]
                else:
                    changed += guard(net, bookings, threats, 3, PRICES, bound)[0] == "broken"
        self.assertGreater(changed, 5)

    def breaks(self, net, bookings, course, bound):
        """Whether just this course costs more than the bound."""
        return least_mend(net, bookings, course, PRICES)[0] > bound

    def undone(self, net, spares, course):
        places = {row[0]: row for row in net[3]}
        free = list(spares)
        rest = []
        for event in sorted(course, key=lambda event: (places[event[1]][3], event[1])):
            found = [spare for spare in free if spare[0] == places[event[1]][1]]
            if found:
                free.remove(found[0])
            else:
                rest.append(event)
        return tuple(rest)

    def test_errors(self):
        spares = (("A", "U"), ("A", "S"))
        book = guard_with(*BASE, spares)[1]
        for reason, value in (("form", None), ("form", ("kept", book[:3])), ("form", ("broken", ())), ("course", ("kept", book[::-1])),
                              ("plan", ("kept", book[:3] + ((GONE[:2], (None,)),))), ("paper", ("broken", GONE[:1], ())),
                              ("course", ("broken", GONE, ()))):
            self.wrong_paper(reason, accept_guard_with, *BASE, spares, value)
        self.wrong_paper("plan", accept_guard_with, *BASE, spares[:1], ("kept", book))
        self.wrong_paper("cost", accept_guard_with, *BASE, spares[:1], ("kept", book[:3] + ((GONE[:2], (None,)),)))
        for function, rest in ((guard_with, ()), (accept_guard_with, (None,))):
            self.asks_the_net_first(function, None, None, None, None, None, None, *rest)
            for value in WRONG_BOOKINGS:
                self.wrong_argument("bookings", function, NET, value, None, 9, None, -1, None, *rest)
            for value in WRONG_THREATS:
                self.wrong_argument("threats", function, NET1, (), value, 9, None, -1, None, *rest)
            for value in WRONG_NUMBERS:
                self.wrong_argument("events", function, NET1, (), (), value, None, -1, None, *rest)
            for value in WRONG_PRICES:
                self.wrong_argument("prices", function, NET, (), (), 0, value, -1, None, *rest)
            for value in WRONG_BOUNDS:
                self.wrong_argument("bound", function, NET, (), (), 0, PRICES, value, None, *rest)
            for value in (*WRONG_OFFERS, (("A", "T"),) * 4):
                self.wrong_argument("spares", function, NET, (), (), 0, PRICES, 0, value, *rest)
            threats = threats_of((2, 2, 2, 2, 1, 1, 1, 1))
            self.wrong_argument("spares", function, line(8), (), threats, 3, MONEY, 0, None, *rest)
            self.refused(TooMany, ("courses",), function, line(8), (), threats, 3, MONEY, 0, (), *rest)
        self.survives(guard_with, (*BASE, spares), InterlineError)
        self.survives(accept_guard_with, (*BASE, spares, guard_with(*BASE, spares)), InterlineError)

    def test_too_many(self):
        bookings = (("a", "Y", ("F",)), ("b", "Y", ("F",)), ("c", "Y", ("H",)))
        for net, sold, reason in ((fan(7, 8, 4), bookings[:1], "ways"), (fan(4, 5, 3, (9, 2)), bookings, "choices")):
            arguments = (net, sold, (("cancel", "F"),), 1, ((0,), (0,)), 0)
            self.refused(TooMany, (reason,), guard_with, *arguments, ())
            self.refused(TooMany, (reason,), guard_with, *arguments, (("B", "U"),))
            self.assertEqual(guard_with(*arguments, (("A", "U"),))[0], "kept")
            self.refused(TooMany, (reason,), least_spares, *arguments, (("A", "U"),), 1)
            answer = guard_with(*arguments, (("A", "U"),))
            self.assertIsNone(accept_guard_with(*arguments, (("A", "U"),), answer))
            self.assertIsNone(accept_spares(*arguments, (("B", "U"), ("A", "U")), 1, ((("A", "U"),), answer[1])))


OFFERS = (("A", "S"), ("B", "T"), ("A", "U"), ("A", "S"), ("A", "U"))


def told_rows(offers, many):
    return [row for count in range(many + 1) for row in itertools.combinations(offers, count)]


class LeastSparesTest(Case):

    def test_rows(self):
        row, book = least_spares(*BASE, OFFERS, 3)
        self.assertEqual(row, (("A", "U"), ("A", "S")))
        self.assertEqual(book, guard_with(*BASE, row)[1])
        self.assertEqual(least_spares(*BASE, OFFERS[2:3] * 2, 3)[0], (("A", "U"), ("A", "U")))
        self.assertEqual(least_spares(*BASE, (("A", "T"), *OFFERS), 3)[0], (("A", "T"), ("A", "S")))
        self.assertIsNone(least_spares(*BASE, OFFERS, 1))
        self.assertIsNone(least_spares(*BASE, OFFERS[:2], 3))
        self.assertIsNone(least_spares(*BASE, (), 3))
        self.assertEqual(least_spares(*BASE[:5], 10 ** 9, OFFERS, 3)[0], ())
        self.assertEqual(least_spares(*BASE[:3], 1, MONEY, 0, OFFERS, 3)[0], (("A", "U"),))

    def test_equal_offers(self):
        offers = (("A", "U"),) * 12
        self.assertEqual(least_spares(*BASE, offers, 3)[0], offers[:2])
        for count in range(4):
            self.assertEqual(len([row for row in told_rows(offers, 3) if len(row) == count]), (1, 12, 66, 220)[count])
        book = guard_with(*BASE, offers[:3])[1]
        self.assertIsNone(accept_spares(*BASE, offers, 3, (offers[:3], book)))
        self.wrong_paper("row", accept_spares, *BASE, offers[:2], 3, (offers[:3], book))

    def test_against_all_rows(self):
        lengths = set()
        for seed in range(120):
            chance = random.Random(seed)
            net = random_net(seed, tails=4, longest=4, stations=3)
            bookings = random_bookings(seed, net, 5)
            threats = tuple(dict.fromkeys(("cancel", event[1]) for event in random_course(seed, net)))
            offers = tuple((chance.choice(net[0])[0], chance.choice(net[1])[0]) for _ in range(chance.randint(0, 6)))
            many = chance.randint(0, 3)
            for bound in (0, 100):
                arguments = (net, bookings, threats, chance.randint(0, 3), PRICES, bound)
                told = None
                try:
                    for row in told_rows(offers, many):
                        if guard_with(*arguments, row)[0] == "kept":
                            told = row
                            break
                except TooMany as error:
                    self.refused(TooMany, (error.reason,), least_spares, *arguments, offers, many)
                    continue
                answer = least_spares(*arguments, offers, many)
                if told is None:
                    self.assertIsNone(answer)
                else:
                    self.assertEqual(answer[0], told)
                    self.assertIsNone(accept_guard_with(*arguments, told, ("kept", answer[1])))
                    self.assertIsNone(accept_spares(*arguments, offers, many, answer))
                lengths.add(None if told is None else len(told))
        self.assertLessEqual({None, 0, 1, 2}, lengths)

    def test_order_of_the_errors(self):
        for function, rest in ((least_spares, ()), (accept_spares, (None,))):
            self.asks_the_net_first(function, None, None, None, None, None, None, None, *rest)
            for value in WRONG_BOUNDS:
                self.wrong_argument("bound", function, NET, (), (), 0, PRICES, value, None, None, *rest)
            for value in (*WRONG_OFFERS, (("A", "T"),) * 13):
                self.wrong_argument("offers", function, NET, (), (), 0, PRICES, 0, value, None, *rest)
            for value in (-1, 4, True, False, None, "1", (), 10 ** 40):
                self.wrong_argument("many", function, NET, (), (), 0, PRICES, 0, (("A", "T"),) * 12, value, *rest)
            for value in WRONG_BOOKINGS:
                self.wrong_argument("bookings", function, NET, value, None, 9, None, -1, None, None, *rest)
            threats = threats_of((2, 2, 2, 2, 1, 1, 1, 1))
            self.wrong_argument("many", function, line(8), (), threats, 3, MONEY, 0, (), 4, *rest)
            # TooMany goes ahead of what is wrong with the paper.
            self.refused(TooMany, ("courses",), function, line(8), (), threats, 3, MONEY, 0, (), 3, *rest)
        self.survives(least_spares, (*BASE, OFFERS, 2), InterlineError)
        self.survives(accept_spares, (*BASE, OFFERS, 2, least_spares(*BASE, OFFERS, 2)), InterlineError)


class AcceptSparesTest(Case):

    ARGUMENTS = (*BASE, OFFERS, 3)

    def rejects(self, reason, *values):
        for value in values:
            self.wrong_paper(reason, accept_spares, *self.ARGUMENTS, value)

    def test_rows_that_are_not_the_first_one(self):
        book = least_spares(*self.ARGUMENTS)[1]
        many = 0
        for row in told_rows(OFFERS, 3):
            if guard_with(*BASE, row)[0] == "kept":
                self.assertIsNone(accept_spares(*self.ARGUMENTS, (row, book)))
                many += 1
            else:
                self.rejects("plan", (row, book))
        self.assertGreater(many, 4)

    def test_errors(self):
        row, book = least_spares(*self.ARGUMENTS)
        self.rejects("form", None, 5, (), (row,), (row, book, None), [row, book], "ab", True)
        self.rejects("row", (None, book), (5, None), (list(row), book), (row[0], book), ((("A", "T"),), book),
                     ((("A", "U"),) * 3, book), ((("B", "T"), ("A", "S"), ("B", "T")), None), ((("C", "S"),), book),
                     ((("A", "U"), ("A", "S"), ("A", "U"), ("A", "U")), book), ((["A", "U"], ("A", "S")), book),
                     ((("A", "U"), ("B", "T")), book), ((("A", "U", "S"),), book))
        self.rejects("form", (row, None), (row, book[:3]), (row, ()), (row, list(book)))
        self.rejects("course", (row, book[::-1]), (row, (None,) + book[1:]))
        self.rejects("plan", (row, book[:3] + ((GONE[:2], (None,)),)), (OFFERS[:1], book), ((), book))
        self.rejects("cost", ((), (book[0], (GONE[:1], (None,) * 3), *book[2:])))

    def test_any_values(self):
        told = least_spares(*self.ARGUMENTS)
        for value in [*VALUES, *damaged(told)]:
            try:
                accept_spares(*self.ARGUMENTS, value)
            except PaperError:
                continue
            self.assertEqual(value[1], told[1])
            self.assertIsNone(accept_guard(*BASE, guard(*BASE)))


if __name__ == "__main__":
    unittest.main()
