"""Points 74 to 78: the book, or a course that breaks it."""

import time
import unittest

from interline.book import accept_guard, guard, worst
from interline.courses import courses
from interline.errors import InterlineError, PaperError, TooMany
from interline.mending import least_mend
from tests.samples import NET, VALUES, Case, damaged, net_of, random_bookings, random_net
from tests.test_broken import WRONG_BOOKINGS
from tests.test_courses import line, random_course, threats_of
from tests.test_mending import PRICES, TYPES, WRONG_PRICES, fan, told_count, told_paper, told_plans, told_ways

# F is full of two travellers, and G behind it has two seats; H comes much later.
FLIGHTS = [("F", "A", "B", 0, 60, "U"), ("G", "A", "B", 90, 150), ("H", "A", "B", 200, 300)]
NET1 = net_of(FLIGHTS, types=(("T", 2, 0), ("U", 2, 0), ("S", 1, 0)))
BOOKINGS = (("a", "Y", ("F",)), ("b", "Y", ("F",)), ("c", "Y", ("G",)))
THREATS = (("late", "F", 5), ("smaller", "G", "S"), ("smaller", "F", "S"), ("cancel", "F"))
MONEY = ((1,), (500,))
WRONG_THREATS = (None, 5, "a", [], (None,), ("cancel", "F"), (("cancel", "F"), ("cancel", "F")), (("cancel", "X"),),
                 (("late", "F", True),), (("late", "F", 0),), (("larger", "F", "S"),), [("cancel", "F")],
                 tuple(("late", "F", number) for number in range(1, 14)))
WRONG_NUMBERS = (-1, 4, True, False, None, "1", (), (1,), 10 ** 40)
WRONG_BOUNDS = (-1, True, False, None, "1", (), (1,), -10 ** 40)


def told_least(net, bookings, course, prices, most=None):
    """The least cost and what belongs to it, by all plans; None where there are too many ways or choices."""
    rows, free = told_ways(net, bookings, course, prices)
    if any(len(mine) > 60 for _, mine in rows):
        return "ways"
    least = min(cost for cost, _ in told_plans(rows, free))
    if told_count(rows, free, least if most is None else min(most, least)) > 600:
        return "choices"
    return least


class GuardTest(Case):

    def test_kept_and_broken_at_the_bound(self):
        # With one event: F cancelled, so one traveller goes on G, 90 late, and one on H, 240 late.
        arguments = (NET1, BOOKINGS, THREATS, 1, MONEY)
        told = guard(*arguments, 330)
        self.assertEqual(told[0], "kept")
        self.assertEqual([course for course, _ in told[1]], [(), *((event,) for event in THREATS)])
        self.assertEqual([len(plan) for _, plan in told[1]], [0, 0, 0, 1, 2])
        self.assertEqual(told[1][3][1], (("G",),))
        self.assertEqual(guard(*arguments, 329), ("broken", (("cancel", "F"),), ((), (), ())))
        self.assertEqual(guard(*arguments, 90)[1], (("cancel", "F"),))
        self.assertEqual(guard(*arguments, 89), ("broken", (("smaller", "F", "S"),), ()))
        self.assertEqual(guard(*arguments, 10 ** 40)[0], "kept")
        self.assertEqual(guard(*arguments[:3], 0, MONEY, 0), ("kept", (((), ()),)))
        self.assertEqual(guard(NET1, (), (), 3, MONEY, 0), ("kept", (((), ()),)))

    def test_with_more_events(self):
        # G has one seat, and both travellers of F look for one.
        arguments = (NET1, BOOKINGS, THREATS, 2, MONEY)
        self.assertEqual(worst(*arguments), (480, (("smaller", "G", "S"), ("cancel", "F"))))
        self.assertEqual(guard(*arguments, 480)[0], "kept")
        self.assertEqual(guard(*arguments, 479), ("broken", (("smaller", "G", "S"), ("cancel", "F")), ()))
        self.assertEqual(guard(*arguments, 300)[1], (("cancel", "F"),))
        self.assertEqual(len(guard(*arguments, 480)[1]), 1 + 4 + 3)

    def test_against_all_plans(self):
        seen = {"kept": 0, "broken": 0, "ways": 0, "choices": 0}
        for seed in range(150):
            net = random_net(seed, tails=4, longest=6)
            bookings = random_bookings(seed, net, 5)
            threats = tuple(dict.fromkeys(random_course(seed, net) + random_course(seed + 900, net)))
            for bound in (0, 60, 250):
                arguments = (net, bookings, threats, 2, PRICES, bound)
                rows = courses(net, threats, 2)
                told = self.told_answer(*arguments[:2], rows, *arguments[4:])
                seen[told[0]] += 1
                if told[0] in ("ways", "choices"):
                    self.refused(TooMany, (told[0],), guard, *arguments)
                    continue
                answer = guard(*arguments)
                self.assertIsNone(accept_guard(*arguments, answer))
                if told[0] == "broken":
                    self.assertEqual(answer, told)
                else:
                    self.assertEqual((answer[0], [course for course, _ in answer[1]]), ("kept", list(rows)))
                    for course, plan in answer[1]:
                        ways, free = told_ways(net, bookings, course, PRICES)
                        costs = dict(map(reversed, told_plans(ways, free)))
                        self.assertLessEqual(costs[plan], bound)
        self.assertGreater(seen["kept"], 30)
        self.assertGreater(seen["broken"], 100)

    def told_answer(self, net, bookings, rows, prices, bound):
        for course in rows:
            least = told_least(net, bookings, course, prices, bound)
            if isinstance(least, str):
                return (least,)
            if least > bound:
                return ("broken", course, told_paper(*told_ways(net, bookings, course, prices), bound + 1))
        return ("kept",)

    def test_too_many_courses(self):
        threats = threats_of((2, 2, 2, 2, 1, 1, 1, 1))
        for function, rest in ((guard, (0,)), (accept_guard, (0, None)), (worst, ())):
            self.refused(TooMany, ("courses",), function, line(8), (), threats, 3, MONEY, *rest)
            self.wrong_argument("prices", function, line(8), (), threats, 3, 5, *rest)
        self.wrong_argument("bound", guard, line(8), (), threats, 3, MONEY, -1)
        self.wrong_argument("bound", accept_guard, line(8), (), threats, 3, MONEY, -1, None)

    def test_too_many_ways(self):
        net = fan(7, 8, 4)
        bookings = (("a", "Y", ("F",)), ("b", "Y", ("r0",)))
        threats = (("cancel", "r0"), ("cancel", "F"))
        self.refused(TooMany, ("ways",), guard, net, bookings, threats, 1, ((1,), (7,)), 7)
        self.refused(TooMany, ("ways",), worst, net, bookings, threats, 1, ((1,), (7,)))
        # The course ahead of it is told as broken, so the one with too many ways is not visited.
        self.assertEqual(guard(net, bookings, threats, 1, ((1,), (7,)), 6)[:2], ("broken", (("cancel", "r0"),)))
        # A course that accept_guard does not look at.
        told = ("broken", (("cancel", "r0"),), ())
        self.assertIsNone(accept_guard(net, bookings, threats, 1, ((1,), (7,)), 6, told))
        self.refused(TooMany, ("ways",), accept_guard, net, bookings, threats, 1, ((1,), (7,)), 6,
                     ("broken", (("cancel", "F"),), ()))
        self.wrong_paper("course", accept_guard, net, bookings, threats, 1, ((1,), (7,)), 6,
                         ("broken", (("cancel", "q0"),), ()))
        book = (((), ()), ((("cancel", "r0"),), (None,)), ((("cancel", "F"),), (None,)))
        self.refused(TooMany, ("ways",), accept_guard, net, bookings, threats, 1, ((1,), (7,)), 7, ("kept", book))
        self.wrong_paper("cost", accept_guard, net, bookings, threats, 1, ((1,), (7,)), 6, ("kept", book))
        self.wrong_paper("form", accept_guard, net, bookings, threats, 1, ((1,), (7,)), 7, ("kept", book[:2]))
        wrong = (*book[:2], ((("cancel", "q0"),), (None,)))
        self.wrong_paper("course", accept_guard, net, bookings, threats, 1, ((1,), (7,)), 7, ("kept", wrong))

    def test_too_many_choices(self):
        bookings = (("a", "Y", ("F",)), ("b", "Y", ("F",)), ("c", "Y", ("H",)))
        for seats in (1, 2):
            net = fan(4, 5, 3, (9, seats))
            arguments = (net, bookings, (("cancel", "F"),), 1, ((0,), (0,)))
            if seats == 2:
                self.refused(TooMany, ("choices",), guard, *arguments, 0)
                self.refused(TooMany, ("choices",), guard, *arguments, 9)
                self.refused(TooMany, ("choices",), worst, *arguments)
                self.assertIsNone(accept_guard(*arguments, 0, ("kept", (((), ()), ((("cancel", "F"),), (None,) * 3)))))
            else:
                self.assertEqual(guard(*arguments, 0)[0], "kept")
                self.assertEqual(worst(*arguments), (0, ()))

    def test_choices_count_up_to_the_bound_if_that_is_less(self):
        # Each of nine travellers gets a way of cost 0, or the last one the money back: the cheapest plan costs 5.
        flights = [("F", "A", "B", 0, 60, "U"), ("H", "B", "Z", 70, 80, "U"), ("G", "A", "B", 20, 50),
                   ("I", "A", "B", 52, 60)]
        net = net_of(flights, types=TYPES)
        bookings = tuple((str(place), "Y", ("F",)) for place in range(9)) + (("z", "Y", ("H",)),)
        threats = (("cancel", "F"),)
        for bound, error in ((5, True), (4, False)):
            arguments = (net, bookings, threats, 1, ((1,), (5,)), bound)
            if error:
                self.refused(TooMany, ("choices",), guard, *arguments)
            else:
                self.assertEqual(guard(*arguments), ("broken", (("cancel", "F"),), ()))
        self.refused(TooMany, ("choices",), least_mend, net, bookings, threats, ((1,), (5,)))

    def test_order_of_the_errors(self):
        for function, rest in ((guard, (-1,)), (accept_guard, (-1, None)), (worst, ())):
            self.asks_the_net_first(function, None, None, None, None, *rest)
            for value in WRONG_BOOKINGS:
                self.wrong_argument("bookings", function, NET, value, None, 9, None, *rest)
            for value in WRONG_THREATS:
                self.wrong_argument("threats", function, NET1, (), value, 9, None, *rest)
            for value in WRONG_NUMBERS:
                self.wrong_argument("events", function, NET1, (), (), value, None, *rest)
            for value in WRONG_PRICES:
                self.wrong_argument("prices", function, NET, (), (), 0, value, *rest)
        for value in WRONG_BOUNDS:
            self.wrong_argument("bound", guard, NET, (), (), 0, PRICES, value)
            self.wrong_argument("bound", accept_guard, NET, (), (), 0, PRICES, value, None)
        arguments = (NET1, BOOKINGS, THREATS, 1, MONEY)
        self.survives(guard, (*arguments, 5), InterlineError)
        self.survives(worst, arguments, InterlineError)
        self.survives(accept_guard, (*arguments, 330, guard(*arguments, 330)), InterlineError)


class AcceptGuardTest(Case):

    ARGUMENTS = (NET1, BOOKINGS, THREATS, 1, MONEY)

    def rejects(self, reason, bound, *values):
        for value in values:
            self.wrong_paper(reason, accept_guard, *self.ARGUMENTS, bound, value)

    def test_forms(self):
        book = guard(*self.ARGUMENTS, 330)[1]
        self.rejects("form", 330, None, 5, (), ("kept",), ("kept", book, None), ("broken", (), (), ()), ("broken", book),
                     ["kept", book], ("keeps", book), (True, book), (0, book), ("kept", list(book)), ("kept", None),
                     ("kept", ()), ("kept", book[:-1]), ("kept", book + book[-1:]), (("kept",), book), ("kept", 5),
                     ("kept", (), ()), ("open", (), ()), ("broken", ("cancel", "F")), ("kept", "abcde"))

    def test_books(self):
        told = guard(*self.ARGUMENTS, 330)
        self.assertIsNone(accept_guard(*self.ARGUMENTS, 330, told))
        book = list(told[1])

        def changed(place, entry):
            return ("kept", (*book[:place], entry, *book[place + 1:]))

        self.assertIsNone(accept_guard(*self.ARGUMENTS, 330, changed(4, (book[4][0], book[4][1][::-1]))))
        self.assertIsNone(accept_guard(*self.ARGUMENTS, 500, changed(3, (book[3][0], (None,)))))
        for place in range(5):
            course, plan = book[place]
            for entry in (None, 5, (), (course,), (course, plan, None), [course, plan], (list(course), plan),
                          (book[place - 1][0], plan), (None, plan), (THREATS[:2], plan), (5, plan)):
                self.rejects("course", 330, changed(place, entry))
            for other in (None, 5, plan + (None,), [None], (("X",),) * len(plan) or None, (("G",),) * 3):
                self.rejects("plan", 330, changed(place, (course, other)))
        self.rejects("cost", 330, changed(3, (book[3][0], (None,))), changed(4, (book[4][0], (None, ("G",)))))
        # The first wrong entry tells the error, and in an entry the course goes ahead of the plan.
        self.rejects("cost", 330, ("kept", (*book[:3], (book[3][0], (None,)), None)))
        self.rejects("plan", 330, ("kept", (*book[:3], (book[3][0], None), None)))
        self.rejects("course", 330, ("kept", (None, *book[1:3], (book[3][0], None), None)))
        self.rejects("plan", 330, changed(4, (book[4][0], (("G",), ("G",)))))
        self.rejects("cost", 329, told)

    def test_events_are_not_booleans(self):
        arguments = (NET1, BOOKINGS, (("late", "F", 1),), 1, MONEY, 0)
        self.assertIsNone(accept_guard(*arguments, ("kept", (((), ()), ((("late", "F", 1),), ())))))
        self.wrong_paper("course", accept_guard, *arguments, ("kept", (((), ()), ((("late", "F", True),), ()))))
        self.wrong_paper("course", accept_guard, *arguments, ("broken", (("late", "F", True),), ()))

    def test_broken(self):
        arguments = (NET1, BOOKINGS, THREATS, 1, MONEY)
        first, last = (("smaller", "F", "S"),), (("cancel", "F"),)
        self.assertEqual(guard(*arguments, 89), ("broken", first, ()))
        # Any course that is broken will do, not only the first one.
        for value in (("broken", first, ()), ("broken", last, ())):
            self.assertIsNone(accept_guard(*arguments, 89, value))
        self.assertIsNone(accept_guard(*arguments, 329, ("broken", last, ((), (), ()))))
        self.rejects("course", 89, ("broken", None, ()), ("broken", (("late", "F", 6),), ()), ("broken", THREATS[:2], ()),
                     ("broken", list(last), ()), ("broken", ("cancel", "F"), ()), ("broken", 5, None),
                     ("broken", (("cancel", "G"),), ()))
        self.rejects("paper", 89, ("broken", last, None), ("broken", last, ((),)), ("broken", last, ((), (), ())),
                     ("broken", (), ()), ("broken", (THREATS[0],), ()), ("broken", (), ((),)))
        self.rejects("paper", 330, ("broken", last, ((), (), ())), ("broken", last, (((), (), ()), (), ())),
                     ("broken", last, ()))
        self.rejects("paper", 329, ("broken", last, ()), ("broken", last, ((), ())), ("broken", last, [(), (), ()]),
                     ("broken", last, ((), (), (), ())), ("broken", last, ((), (), ((),))))

    def test_any_values(self):
        book = guard(*self.ARGUMENTS, 330)
        broken = guard(*self.ARGUMENTS, 329)
        for answer, bound in ((book, 330), (broken, 329)):
            for value in [*VALUES, *damaged(answer)]:
                if value != answer or repr(value) != repr(answer):
                    self.assertRaises(PaperError, accept_guard, *self.ARGUMENTS, bound, value)


class WorstTest(Case):

    def test_equal_costs(self):
        net = net_of([("F", "A", "B", 0, 60), ("G", "A", "B", 10, 70), ("H", "C", "B", 0, 60)])
        bookings = (("a", "Y", ("F",)), ("b", "Y", ("G",)), ("c", "Y", ("H",)))
        threats = (("cancel", "G"), ("cancel", "F"), ("cancel", "H"), ("late", "H", 5))
        self.assertEqual(worst(net, bookings, threats, 1, ((1,), (30,))), (30, (("cancel", "G"),)))
        self.assertEqual(worst(net, bookings, threats, 2, ((1,), (30,))), (60, (threats[0], threats[1])))
        self.assertEqual(worst(net, bookings, threats, 0, ((1,), (30,))), (0, ()))
        self.assertEqual(worst(net, bookings, threats[3:], 1, ((1,), (30,))), (0, ()))
        self.assertEqual(worst(net, bookings, threats[1:], 1, ((1,), (11,))), (11, (threats[2],)))
        self.assertEqual(worst(net, bookings, threats[1:], 1, ((1,), (9,))), (9, (threats[1],)))

    def test_against_least_mend(self):
        done = 0
        for seed in range(60):
            net = random_net(seed, tails=4, longest=6)
            bookings = random_bookings(seed, net, 8)
            threats = tuple(dict.fromkeys(random_course(seed, net) + random_course(seed + 900, net)))
            rows = courses(net, threats, 3)
            try:
                costs = [least_mend(net, bookings, course, PRICES)[0] for course in rows]
            except TooMany as error:
                self.refused(TooMany, (error.reason,), worst, net, bookings, threats, 3, PRICES)
                continue
            self.assertEqual(worst(net, bookings, threats, 3, PRICES), (max(costs), rows[costs.index(max(costs))]))
            done += 1
            # The book closes at exactly the worst cost.
            self.assertEqual(guard(net, bookings, threats, 3, PRICES, max(costs))[0], "kept")
            if max(costs):
                self.assertEqual(guard(net, bookings, threats, 3, PRICES, max(costs) - 1)[0], "broken")
        self.assertGreater(done, 40)

    def test_many_courses_are_quick(self):
        net = random_net(3, tails=8, longest=5)
        bookings = random_bookings(3, net, 40)
        threats = tuple(("late", row[0], 40) for row in net[3][:11])
        begin = time.process_time()
        self.assertEqual(len(courses(net, threats, 3)), 232)
        try:
            worst(net, bookings, threats, 3, PRICES)
        except TooMany:
            pass
        self.assertLess(time.process_time() - begin, 20)


if __name__ == "__main__":
    unittest.main()
