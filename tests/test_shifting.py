"""Points 79 to 81: the fewest shifts behind which the book closes."""

import itertools
import random
import unittest

from interline.book import accept_guard, guard
from interline.checks import check
from interline.errors import ArgumentError, InterlineError, NetError, PaperError, TooMany
from interline.shifting import accept_shifts, least_shifts
from tests.samples import NET, VALUES, Case, damaged, net_of
from tests.test_book import WRONG_BOUNDS, WRONG_NUMBERS, WRONG_THREATS
from tests.test_broken import WRONG_BOOKINGS
from tests.test_courses import line, threats_of
from tests.test_mending import PRICES, WRONG_PRICES, fan

# Where F is 10 late, G is missed.
NET1 = net_of([("F", "A", "B", 100, 160, "U"), ("G", "B", "C", 190, 250), ("H", "B", "C", 900, 950)],
              types=(("T", 9, 20), ("U", 9, 20)))
BOOKINGS = (("a", "Y", ("F", "G")),)
THREATS = (("late", "F", 10),)
BASE = (NET1, BOOKINGS, THREATS, 1, ((1,), (500,)), 0)
STEPS = (("F", -5), ("G", 9), ("G", 10), ("F", -10), ("H", -1), ("G", 5))
WRONG_STEPS = (
    None, 5, "F", True, [], [("F", 5)], ("F", 5), (None,), (("F",),), (("F", 5, 5),), (("X", 5),), ((1, 5),), (("F", 0),),
    (("F", 1441),), (("F", -1441),), (("F", True),), (("F", "5"),), (("F", None),), (("F", 5), ("F", 5)), (["F", 5],),
    ((("F",), 5),), (("F", 5), ("G", 5), ("F", 5)), tuple(("F", number) for number in range(1, 14)),
)


def told_behind(net, row):
    """The net behind some shifts."""
    minutes = dict(row)
    flights = tuple(flight[:3] + (flight[3] + minutes.get(flight[0], 0), flight[4] + minutes.get(flight[0], 0)) + flight[5:]
                    for flight in net[3])
    return net[:3] + (flights,) + net[4:]


def told_rows(steps, most):
    return [row for many in range(most + 1) for row in itertools.combinations(steps, many)
            if len({step[0] for step in row}) == many]


def told_shifts(net, bookings, threats, events, prices, bound, steps, most):
    """What point 80 tells, by asking `guard` of each net in order."""
    for row in told_rows(steps, most):
        behind = told_behind(net, row)
        try:
            answer = guard(behind, bookings, threats, events, prices, bound)
        except NetError:
            continue
        except ArgumentError as error:
            assert error.reason == "bookings"
            continue
        if answer[0] == "kept":
            return row, behind
    return None


class ShiftsTest(Case):

    def test_rows_in_their_order(self):
        # One shift of ten minutes will do; G later stands ahead of F earlier.
        self.assertEqual(least_shifts(*BASE, STEPS, 1)[0], (("G", 10),))
        self.assertEqual(least_shifts(*BASE, STEPS[3:], 1)[0], (("F", -10),))
        self.assertEqual(least_shifts(*BASE, STEPS[:2], 2)[0], (("F", -5), ("G", 9)))
        self.assertEqual(least_shifts(*BASE, (STEPS[5], *STEPS[:2]), 3)[0], (("G", 5), ("F", -5)))
        self.assertIsNone(least_shifts(*BASE, STEPS[:2], 1))
        self.assertIsNone(least_shifts(*BASE, STEPS, 0))
        self.assertIsNone(least_shifts(*BASE, (), 3))
        self.assertEqual(least_shifts(*BASE[:5], 10 ** 9, STEPS, 3)[0], ())
        self.assertEqual(least_shifts(*BASE[:5], 700, STEPS, 3)[0], ())
        row, book = least_shifts(*BASE, STEPS, 1)
        self.assertEqual(book, (((), ()), ((("late", "F", 10),), ())))

    def test_shifts_of_one_flight_are_never_in_one_row(self):
        self.assertIsNone(least_shifts(*BASE, (("G", 4), ("G", 6)), 3))
        self.assertEqual(least_shifts(*BASE, (("G", 4), ("F", -6), ("G", 6)), 3)[0], (("G", 4), ("F", -6)))

    def test_rows_behind_which_the_net_is_refused(self):
        # F would depart before the beginning, the tail of G and H would lack its turn.
        net = net_of([("F", "A", "B", 5, 60, "U"), ("G", "B", "C", 90, 150), ("J", "C", "B", 180, 240)],
                     types=(("T", 9, 20), ("U", 9, 20)))
        base = (net, BOOKINGS, (("late", "F", 15),), 1, ((1,), (500,)), 0)
        self.assertRaises(NetError, check, told_behind(net, (("F", -15),)))
        self.assertRaises(NetError, check, told_behind(net, (("G", 15),)))
        self.assertIsNone(least_shifts(*base, (("F", -15), ("G", 15)), 2))
        self.assertEqual(least_shifts(*base, (("F", -15), ("G", 15), ("J", 5)), 2)[0], (("G", 15), ("J", 5)))
        self.assertEqual(least_shifts(*base, (("F", -15), ("G", 10), ("F", -5)), 2)[0], (("G", 10), ("F", -5)))

    def test_rows_behind_which_bookings_are_none(self):
        net = net_of([("F", "A", "B", 100, 160, "U"), ("G", "B", "C", 190, 250), ("H", "B", "C", 900, 950, "U")],
                     types=(("T", 9, 20), ("U", 9, 20)))
        base = (net, BOOKINGS, (("late", "F", 10),), 1, ((1,), (500,)), 0)
        # G behind the longest wait is no connection any more, nor is F a minute later.
        self.assertEqual(least_shifts(net, BOOKINGS, (("late", "F", 10),), 1, ((1,), (500,)), 0,
                                      (("F", 1), ("G", 1411), ("G", 10)), 1)[0], (("G", 10),))
        self.assertIsNone(least_shifts(*base, (("F", 1), ("G", 1411)), 1))
        self.assertEqual(least_shifts(*base, (("F", 1), ("G", 1410)), 1)[0], (("G", 1410),))

    def test_against_the_words(self):
        found = {}
        for seed in range(150):
            chance = random.Random(seed)
            flights = []
            for place in range(3):
                depart, slack = chance.randrange(20, 200), chance.choice((0, 5, 10))
                flights += [(f"p{place}", "A", "B", depart, depart + 60, "T"),
                            (f"q{place}", "B", "C", depart + 90 + slack, depart + 150 + slack, "U")]
            net = net_of(flights, types=(("T", 2, 0), ("U", 2, 0)))
            bookings = tuple((str(place), "Y", (f"p{place}", f"q{place}")) for place in range(3))
            threats = tuple(("late", row[0], 10) for row in flights[:5])
            steps = tuple({(chance.choice(flights)[0], chance.choice((-60, -10, -5, 5, 10, 20))): 1 for _ in range(10)})
            for bound in (0, 70):
                arguments = (net, bookings, threats, 1, ((3,), (400,)), bound, steps, chance.randint(0, 3))
                try:
                    told = told_shifts(*arguments)
                except TooMany as error:
                    self.refused(TooMany, (error.reason,), least_shifts, *arguments)
                    continue
                answer = least_shifts(*arguments)
                found[told and len(told[0])] = found.get(told and len(told[0]), 0) + 1
                if told is None:
                    self.assertIsNone(answer)
                    continue
                self.assertEqual(answer[0], told[0])
                self.assertIsNone(accept_guard(told[1], *arguments[1:6], ("kept", answer[1])))
                self.assertIsNone(accept_shifts(*arguments, answer))
        self.assertLessEqual({None, 0, 1, 2, 3}, set(found), found)

    def test_too_many(self):
        threats = threats_of((2, 2, 2, 2, 1, 1, 1, 1))
        self.refused(TooMany, ("courses",), least_shifts, line(8), (), threats, 3, ((1,), (1,)), 0, (), 0)
        self.refused(TooMany, ("courses",), accept_shifts, line(8), (), threats, 3, ((1,), (1,)), 0, (), 0, ((), ()))
        self.wrong_paper("form", accept_shifts, line(8), (), threats, 3, ((1,), (1,)), 0, (), 0, None)
        self.wrong_paper("row", accept_shifts, line(8), (), threats, 3, ((1,), (1,)), 0, (), 0, (None, ()))
        bookings = (("a", "Y", ("F",)), ("b", "Y", ("F",)), ("c", "Y", ("H",)))
        net = fan(4, 5, 3, (9, 2))
        arguments = (net, bookings, (("cancel", "F"),), 1, ((0,), (0,)), 0, (("s0", 1),), 1)
        self.refused(TooMany, ("choices",), least_shifts, *arguments)
        book = (((), ()), ((("cancel", "F"),), (None,) * 3))
        self.assertIsNone(accept_shifts(*arguments, ((), book)))
        self.assertIsNone(accept_shifts(*arguments, ((("s0", 1),), book)))
        net = fan(7, 8, 4)
        arguments = (net, bookings[:1], (("cancel", "F"),), 1, ((0,), (0,)), 0, (("s0", 1),), 1)
        self.refused(TooMany, ("ways",), least_shifts, *arguments)
        self.refused(TooMany, ("ways",), accept_shifts, *arguments, ((), (((), ()), ((("cancel", "F"),), (None,)))))

    def test_twelve_steps_and_thirteen(self):
        steps = tuple(("H", number) for number in range(1, 12)) + (("G", 10),)
        self.assertEqual(least_shifts(*BASE, steps, 3)[0], (("G", 10),))
        for function, rest in ((least_shifts, ()), (accept_shifts, (None,))):
            self.wrong_argument("steps", function, *BASE, steps + (("F", 1),), None, *rest)
        steps = tuple((flight[0], minutes) for flight in line(12)[3] for minutes in (1,))
        self.assertEqual(least_shifts(line(12), (), (), 0, ((1,), (1,)), 0, steps, 3)[0], ())

    def test_order_of_the_errors(self):
        for function, rest in ((least_shifts, (None, None)), (accept_shifts, (None, None, None))):
            self.asks_the_net_first(function, None, None, None, None, None, *rest)
            for value in WRONG_BOOKINGS:
                self.wrong_argument("bookings", function, NET, value, None, 9, None, None, *rest)
            for value in WRONG_THREATS[:-1]:
                self.wrong_argument("threats", function, NET1, (), value, 9, None, None, *rest)
            for value in WRONG_NUMBERS:
                self.wrong_argument("events", function, NET1, (), (), value, None, None, *rest)
            for value in WRONG_PRICES:
                self.wrong_argument("prices", function, NET, (), (), 0, value, None, *rest)
            for value in WRONG_BOUNDS:
                self.wrong_argument("bound", function, NET, (), (), 0, PRICES, value, *rest)
            for value in WRONG_STEPS:
                self.wrong_argument("steps", function, *BASE, value, *rest[1:])
            for value in WRONG_NUMBERS:
                self.wrong_argument("shifts", function, *BASE, STEPS, value, *rest[2:])
        self.survives(least_shifts, (*BASE, STEPS, 1), InterlineError)
        self.survives(accept_shifts, (*BASE, STEPS, 1, least_shifts(*BASE, STEPS, 1)), InterlineError)

    def test_steps_at_their_ends(self):
        for step in (("F", 1440), ("F", -1440), ("H", 1)):
            self.assertIsNone(least_shifts(*BASE, (step,), 1))


class AcceptShiftsTest(Case):

    ARGUMENTS = (*BASE, STEPS, 2)

    def rejects(self, reason, *values):
        for value in values:
            self.wrong_paper(reason, accept_shifts, *self.ARGUMENTS, value)

    def test_rows_that_are_not_the_first_one(self):
        book = least_shifts(*self.ARGUMENTS)[1]
        for row in told_rows(STEPS, 2):
            try:
                kept = guard(told_behind(NET1, row), *BASE[1:])[0] == "kept"
            except InterlineError:
                kept = False
            if kept:
                self.assertIsNone(accept_shifts(*self.ARGUMENTS, (row, book)))
            else:
                self.assertRaises(PaperError, accept_shifts, *self.ARGUMENTS, (row, book))
        self.assertIsNone(accept_shifts(*self.ARGUMENTS, ((("F", -10), ("H", -1)), book)))

    def test_errors(self):
        row, book = least_shifts(*self.ARGUMENTS)
        self.rejects("form", None, 5, (), (row,), (row, book, None), [row, book], "ab", True, ("kept", row, book))
        self.rejects("row", (None, book), (5, book), ([("G", 10)], book), (("G", 10), book), ((("G", 11),), book),
                     ((("G", 10), ("G", 10)), book), ((("G", 10), ("F", -5)), book), ((("G", 9), ("G", 10)), book),
                     ((("F", -5), ("G", 9), ("H", -1)), book), ((["G", 10],), book), ((("G", 10, 1),), book))
        self.rejects("form", (row, None), (row, 5), (row, ()), (row, book[:1]), (row, book + book[:1]), (row, list(book)))
        self.rejects("course", (row, (None, book[1])), (row, (book[0], ((), ()))))
        self.rejects("plan", (row, (((), (None,)), book[1])), (row, (book[0], (book[1][0], None))))
        self.rejects("plan", ((), book))
        self.rejects("cost", ((), (book[0], (book[1][0], (None,)))))

    def test_a_row_is_not_told_by_booleans(self):
        arguments = (*BASE[:5], 900, (("F", 1),), 1)
        self.assertEqual(least_shifts(*arguments)[0], ())
        book = least_shifts(*arguments)[1]
        self.wrong_paper("row", accept_shifts, *arguments, ((("F", True),), book))

    def test_nets(self):
        book = least_shifts(*self.ARGUMENTS)[1]
        arguments = (*BASE, (("F", -101), ("F", 1), ("G", 1411)), 1)
        for row in ((("F", -101),), (("F", 1),), (("G", 1411),)):
            for other in (book, None, 5):
                self.wrong_paper("net", accept_shifts, *arguments, (row, other))

    def test_any_values(self):
        told = least_shifts(*self.ARGUMENTS)
        for value in [*VALUES, *damaged(told)]:
            if value != ((("G", 10),), told[1]):
                self.assertRaises(PaperError, accept_shifts, *self.ARGUMENTS, value)


if __name__ == "__main__":
    unittest.main()
