"""Points 57 to 60: courses and what becomes of the flights in them."""

import itertools
import random
import unittest

from interline.courses import actual, courses
from interline.errors import ArgumentError, InterlineError, TooMany
from interline.words import read_net
from tests.samples import NET, VALUES, Case, net_of, random_net, with_part, with_value


def line(many):
    """A net of so many flights there and back by one tail."""
    return net_of([(f"f{place}", "AB"[place % 2], "BA"[place % 2], 100 * place, 100 * place + 50)
                   for place in range(many)])


def threats_of(sizes):
    """Threats of the flights of a line, so many of each."""
    return tuple(("late", f"f{place}", minutes + 1) for place, size in enumerate(sizes) for minutes in range(size))


def random_course(seed, net, most=3):
    chance = random.Random(seed)
    seats = {name: many for name, many, _ in net[1]}
    flights = list(net[3])
    chance.shuffle(flights)
    told = []
    for flight in flights[:chance.randint(0, most)]:
        lesser = [name for name in seats if seats[name] < seats[flight[5]]]
        word = chance.choice(("cancel", "late", "late", "smaller"))
        if word == "cancel" or (word == "smaller" and not lesser):
            told.append(("cancel", flight[0]))
        elif word == "late":
            told.append(("late", flight[0], chance.choice((1, 20, 60, 200))))
        else:
            told.append(("smaller", flight[0], chance.choice(lesser)))
    return tuple(told)


def told_actual(net, course):
    """What point 59 tells, word for word."""
    flights = {row[0]: row for row in net[3]}
    types = {row[0]: row for row in net[1]}
    result = {}
    for _, kind, row in net[4]:
        place = ready = None
        for name in row:
            _, start, end, depart, arrive, own, _, _ = flights[name]
            if place is None:
                place = start
            mine = [event for event in course if event[1] == name]
            if ("cancel", name) in mine or place != start:
                result[name] = None
                continue
            begin = depart + sum(event[2] for event in mine if event[0] == "late")
            if ready is not None and ready > begin:
                begin = ready
            plane = ([event[2] for event in mine if event[0] == "smaller"] + [own])[0]
            result[name] = (begin, begin + (arrive - depart), types[plane][1])
            place, ready = end, begin + (arrive - depart) + types[kind][2]
    return tuple(result[row[0]] for row in net[3])


class CoursesTest(Case):

    def test_order(self):
        threats = (("late", "G", 5), ("cancel", "F"), ("smaller", "F", "U"))
        self.assertEqual(courses(NET, threats, 0), ((),))
        self.assertEqual(courses(NET, threats, 1), ((), threats[:1], threats[1:2], threats[2:]))
        pairs = ((threats[0], threats[1]), (threats[0], threats[2]))
        self.assertEqual(courses(NET, threats, 2), ((), threats[:1], threats[1:2], threats[2:], *pairs))
        self.assertEqual(courses(NET, threats, 3), courses(NET, threats, 2))
        self.assertEqual(courses(NET, (), 3), ((),))

    def test_order_of_places(self):
        threats = tuple(("cancel", name) for name in "JIHGF")
        rows = [row for many in range(4) for row in itertools.combinations(threats, many)]
        self.assertEqual(courses(NET, threats, 3), tuple(rows))

    def test_threats_of_one_flight(self):
        for sizes in ((3,), (2, 1), (1, 3, 2), (2, 2, 2), (4, 1, 1, 1), (12,), (1, 1, 1, 1, 1, 1)):
            threats = threats_of(sizes)
            for most in range(4):
                rows = [row for many in range(most + 1) for row in itertools.combinations(threats, many)
                        if len({event[1] for event in row}) == many]
                self.assertEqual(courses(line(len(sizes)), threats, most), tuple(rows))

    def test_number_of_courses(self):
        self.assertEqual(len(courses(line(11), threats_of((1,) * 11), 3)), 232)
        # No threats have exactly 250 courses; 246 and 255 are the next to it.
        net = line(8)
        self.assertEqual(len(courses(net, threats_of((3, 2, 2, 1, 1, 1, 1, 1)), 3)), 246)
        self.refused(TooMany, ("courses",), courses, net, threats_of((2, 2, 2, 2, 1, 1, 1, 1)), 3)
        self.assertEqual(len(courses(line(12), threats_of((1,) * 12), 2)), 79)
        self.refused(TooMany, ("courses",), courses, line(12), threats_of((1,) * 12), 3)

    def test_events(self):
        for event in (("cancel", "F"), ("late", "F", 1), ("late", "F", 1440), ("smaller", "F", "U")):
            self.assertEqual(courses(NET, (event,), 1), ((), (event,)))
            actual(NET, (event,))
        wrong = (
            "cancel", ("cancel",), ("cancel", "X"), ("cancel", "F", 1), ("cancel", None), ("cancel", ("F",)),
            ("late", "F"), ("late", "F", 0), ("late", "F", 1441), ("late", "F", -1), ("late", "F", True),
            ("late", "F", "1"), ("late", "F", None), ("late", "X", 5), ("late", "F", 5, 5), ("late", "A", 5),
            ("smaller", "F"), ("smaller", "F", "T"), ("smaller", "H", "T"), ("smaller", "F", "X"),
            ("smaller", "F", 1), ("smaller", "X", "U"), ("smaller", "F", ("U",)), ("smaller", "F", "U", 1),
            ("early", "F", 5), ("early", "F"), (1, "F"), (("cancel",), "F"), ("late", ("F",), 5), (), None, 5,
            ["cancel", "F"], ("larger", "F", "U"),
        )
        for event in wrong:
            self.wrong_argument("threats", courses, NET, (event,), 1)
            self.wrong_argument("threats", courses, NET, (("cancel", "J"), event), 1)
            self.wrong_argument("course", actual, NET, (event,))
            self.wrong_argument("course", actual, NET, (("cancel", "J"), event))

    def test_smaller_types_have_fewer_seats(self):
        net = with_part(NET, 1, (("T", 3, 20), ("U", 2, 0), ("V", 3, 0), ("W", 1, 0)))
        for kind in ("U", "W"):
            self.assertEqual(len(courses(net, (("smaller", "F", kind),), 1)), 2)
        for kind in ("T", "V"):
            self.wrong_argument("threats", courses, net, (("smaller", "F", kind),), 1)
            self.wrong_argument("course", actual, net, (("smaller", "F", kind),))

    def test_wrong_threats(self):
        for value in (None, 5, "cancel", True, [], [("cancel", "F")], {}, ("cancel", "F"), (None,), ((),)):
            self.wrong_argument("threats", courses, NET, value, 1)
        self.wrong_argument("threats", courses, NET, (("cancel", "F"), ("cancel", "G"), ("cancel", "F")), 1)
        self.assertEqual(len(courses(NET, threats_of_f(12), 3)), 13)
        self.wrong_argument("threats", courses, NET, threats_of_f(13), 3)

    def test_wrong_numbers_of_events(self):
        for most in (-1, 4, None, True, False, "1", (), (1,), 10 ** 40, 1.0):
            self.wrong_argument("events", courses, NET, (), most)
        self.wrong_argument("events", courses, line(12), threats_of((1,) * 12), 4)
        self.wrong_argument("threats", courses, NET, (None,), 4)

    def test_wrong_courses(self):
        for value in (None, 5, "cancel", True, [], ("cancel", "F"), (("cancel", "F"), ("cancel", "F")),
                      (("cancel", "F"), ("late", "F", 5)), (("late", "G", 5), ("late", "G", 6)),
                      tuple(("cancel", name) for name in "FGHI")):
            self.wrong_argument("course", actual, NET, value)
        self.assertEqual(len(actual(NET, tuple(("cancel", name) for name in "FGH"))), 5)

    def test_any_values(self):
        self.asks_the_net_first(courses, None, None)
        self.asks_the_net_first(actual, None)
        self.survives(courses, (NET, (("cancel", "F"),), 1), InterlineError)
        self.survives(actual, (NET, ()), InterlineError)
        for value in VALUES:
            if value != ():
                self.wrong_argument("course", actual, NET, value)
                self.wrong_argument("threats", courses, NET, value, None)
                self.survives(lambda *event: actual(NET, (event,)), ("late", "F", 5), ArgumentError)


def threats_of_f(many):
    return tuple(("late", "F", minutes) for minutes in range(1, many + 1))


class ActualTest(Case):

    def test_examples(self):
        text = ("(station A 0 30) (station B 0 30) (type T 9 20) (classes Y)"
                "(flight F A B 0 60 T 100 (limits 9)) (flight G B A 90 150 T 100 (limits 9)) (tail N T F G)")
        self.assertEqual(actual(read_net(text), (("late", "F", 45),)), ((45, 105, 9), (125, 185, 9)))
        self.assertEqual(actual(read_net(text), (("cancel", "F"),)), (None, None))

    def test_no_events(self):
        told = ((100, 160, 3), (200, 300, 3), (100, 180, 2), (200, 290, 2), (400, 600, 3))
        self.assertEqual(actual(NET, ()), told)
        for seed in range(20):
            net = random_net(seed)
            seats = {name: many for name, many, _ in net[1]}
            self.assertEqual(actual(net, ()), tuple((row[3], row[4], seats[row[5]]) for row in net[3]))

    def test_delays_go_on_along_the_tail(self):
        # F and G of type T need 20 minutes between them, and there are 40; so 20 minutes are made up.
        for minutes, late in ((1, 0), (20, 0), (21, 1), (90, 70), (200, 180)):
            told = actual(NET, (("late", "F", minutes),))
            self.assertEqual(told[0], (100 + minutes, 160 + minutes, 3))
            self.assertEqual(told[1], (200 + late, 300 + late, 3))
            self.assertEqual(told[4], (400 + max(0, late - 80), 600 + max(0, late - 80), 3))
            self.assertEqual(told[2:4], ((100, 180, 2), (200, 290, 2)))

    def test_own_delays_are_not_added_to_those_of_the_tail(self):
        told = actual(NET, (("late", "F", 50), ("late", "G", 10)))
        self.assertEqual(told[1], (230, 330, 3))
        told = actual(NET, (("late", "F", 50), ("late", "G", 40)))
        self.assertEqual(told[1], (240, 340, 3))

    def test_a_cancelled_flight_leaves_the_tail_where_it_is(self):
        self.assertEqual(actual(NET, (("cancel", "F"),))[:2], (None, None))
        self.assertEqual(actual(NET, (("cancel", "F"),))[4], None)
        self.assertEqual(actual(NET, (("cancel", "G"),)), ((100, 160, 3), None, (100, 180, 2), (200, 290, 2), None))
        self.assertEqual(actual(NET, (("cancel", "J"),))[:2], ((100, 160, 3), (200, 300, 3)))

    def test_the_tail_flies_again_where_it_stands(self):
        flights = [(f"f{place}", "AB"[place % 2], "BA"[place % 2], 100 * place, 100 * place + 50)
                   for place in range(5)]
        net = net_of(flights)
        self.assertEqual(actual(net, (("cancel", "f1"),)),
                         ((0, 50, 9), None, None, (300, 350, 9), (400, 450, 9)))
        self.assertEqual(actual(net, (("cancel", "f0"),)),
                         (None, None, (200, 250, 9), (300, 350, 9), (400, 450, 9)))
        # f2 could not be flown anyway; its event changes nothing, and the delay goes on behind the gap.
        told = actual(net, (("late", "f0", 400), ("cancel", "f1"), ("late", "f2", 9)))
        self.assertEqual(told, ((400, 450, 9), None, None, (450, 500, 9), (500, 550, 9)))

    def test_the_turn_is_that_of_the_tails_own_type(self):
        types = (("T", 9, 100), ("U", 3, 10))
        net = net_of([("F", "A", "B", 0, 50), ("G", "B", "A", 150, 200)], types=types)
        told = actual(net, (("smaller", "F", "U"), ("late", "G", 1)))
        self.assertEqual(told, ((0, 50, 3), (151, 201, 9)))
        net = with_value(net, 1, 0, 2, 60)
        self.assertEqual(actual(net, (("late", "F", 60), ("smaller", "G", "U"))), ((60, 110, 9), (170, 220, 3)))

    def test_seats(self):
        self.assertEqual(actual(NET, (("smaller", "F", "U"),))[:2], ((100, 160, 2), (200, 300, 3)))
        self.assertEqual(actual(NET, (("cancel", "F"), ("smaller", "G", "U")))[:2], (None, None))

    def test_against_the_words(self):
        for seed in range(80):
            net = random_net(seed, tails=4, longest=6)
            for turn in range(6):
                course = random_course(100 * seed + turn, net)
                self.assertEqual(actual(net, course), told_actual(net, course))
                self.assertEqual(actual(net, course[::-1]), told_actual(net, course))

    def test_an_empty_tail(self):
        net = with_part(NET, 4, NET[4] + (("N3", "T", ()),))
        self.assertEqual(actual(net, ()), actual(NET, ()))
        self.assertEqual(actual(((), (), ("Y",), (), (), ()), ()), ())


if __name__ == "__main__":
    unittest.main()
