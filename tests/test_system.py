"""Points 95 to 97: sessions."""

import random
import unittest

from interline.aircraft import least_tails, swaps
from interline.book import guard, worst
from interline.broken import broken
from interline.calendar import board
from interline.causes import blame
from interline.courses import actual, courses
from interline.crews import least_duties
from interline.days import play
from interline.errors import ArgumentError, CommandError, InterlineError, NetError, SaleError, TextError, TooMany
from interline.gates import least_gates
from interline.holds import least_holds
from interline.mending import least_mend
from interline.promises import promise, safest
from interline.quotes import quote
from interline.room import room_for
from interline.system import Session
from interline.tickets import Office
from interline.values import seat_values, weak_courses
from interline.words import read_net, write_net
from tests.samples import NET, VALUES, Case, all_journeys, random_net
from tests.test_courses import line as line_of_flights
from tests.test_courses import random_course
from tests.test_mending import fan

TEXT = write_net(NET)
START = ("ledger", "sell a Y F G", "sell b C H I", "sell c Y F", "threat cancel F", "threat late H 30",
         "threat smaller G U", "events 2", "bound 300", "price Y 2 90")
LINES = (
    "text", "sell d Y F", "refund a", "ledger", "sold", "threat cancel G", "threat late F 5", "threat smaller F U", "events 1",
    "bound 5", "price C 1 1", "day", "broken 0", "mend 0 1", "guard", "worst", "weak", "room Y F", "quote Y A C 1", "board A 0",
    "tails", "duties 20 300", "gates B 30", "promise F G", "safest A C 0", "seats 1", "holds 20 1", "play 0", "blame 0 1",
)


def session_of(text=TEXT, lines=START):
    session = Session()
    session.load(text)
    for line in lines:
        session.answer(line)
    return session


def words(*parts):
    return " ".join("none" if part is None else str(part) for part in parts)


def course_line(course):
    return words("course", *(part for event in course for part in event))


class SessionCase(Case):

    def answers(self, line, *told):
        """The answer to a line in a new session."""
        session = session_of()
        many = len(session)
        self.assertEqual(session.answer(line), told)
        self.assertEqual(list(session)[many:], list(told))

    def wrong_line(self, *lines, session=None):
        session = session or session_of()
        kept = self.state(session)
        for line in lines:
            self.refused(CommandError, (line,), session.answer, line)
        self.assertEqual(self.state(session), kept)

    def state(self, session):
        """All that can be seen of a session, without changing it but for the lines it has answered."""
        lines = list(session)
        told = []
        for line in ("text", "sold", "ledger", "worst", "guard", "mend", "events 2"):
            try:
                told.append(session.answer(line))
            except InterlineError as error:
                told.append((type(error), vars(error)))
        return lines[:len(START)], told


class LoadTest(SessionCase):

    def test_a_new_session(self):
        session = Session()
        self.assertEqual((len(session), list(session)), (0, []))
        for line in LINES:
            self.refused(CommandError, (line,), session.answer, line)
        self.assertEqual((len(session), list(session)), (0, []))

    def test_what_a_loaded_session_begins_with(self):
        session = Session()
        self.assertIsNone(session.load(TEXT))
        self.assertEqual(session.answer("ledger"), ("ledger 0 0 0 0 0",))
        self.assertEqual(session.answer("sold"), ())
        self.assertEqual(session.answer("guard"), ("kept 1",))
        session.answer("sell a Y F")
        session.answer("threat cancel F")
        session.answer("threat late F 7")
        session.answer("threat late G 1")
        # One event at most, 1 for a minute, 1000 for the money back, and the bound 0.
        self.assertEqual(session.answer("worst"), ("worst 1000 course cancel F",))
        self.assertEqual(session.answer("mend 1"), ("least 0",))
        self.assertEqual(session.answer("guard"), ("broken course cancel F",))
        self.assertEqual(session.answer("holds 7"), ("least 0",))
        session.answer("price Y 1 1")
        self.assertEqual(session.answer("guard"), ("broken course cancel F",))
        session.answer("bound 1")
        self.assertEqual(session.answer("guard"), ("kept 4",))

    def test_texts_that_cannot_be_read(self):
        for text, at in ((None, 0), (5, 0), ("", 0), ("(station", 8), (TEXT + "%", len(TEXT)), (True, 0), ("x" * 12001, 0)):
            session = session_of()
            kept = self.state(session)
            self.refused(TextError, (at,), session.load, text)
            self.assertEqual(self.state(session), kept)
        session = Session()
        self.refused(TextError, (0,), session.load, "")
        self.wrong_unloaded(session)

    def test_nets_that_are_not_accepted(self):
        session = session_of()
        kept = self.state(session)
        self.refused(NetError, ((2,), "many"), session.load, "(classes)")
        self.refused(NetError, ((3, 0), "station"), session.load, "(classes Y) (flight F A B 0 1 T 5 (limits 1))")
        self.assertEqual(self.state(session), kept)
        session = Session()
        self.refused(NetError, ((2,), "many"), session.load, "(classes)")
        self.wrong_unloaded(session)

    def wrong_unloaded(self, session):
        for line in ("ledger", "text", "guard"):
            self.refused(CommandError, (line,), session.answer, line)
        self.assertEqual(len(session), 0)

    def test_loading_again(self):
        session = session_of()
        lines = list(session)
        session.load("(station A 0 30) (classes X Y Z)")
        self.assertEqual(list(session), lines)
        self.assertEqual(session.answer("text"), ("(station A 0 30)", "(classes X Y Z)"))
        self.assertEqual(session.answer("sold"), ())
        self.assertEqual(session.answer("ledger"), ("ledger 0 0 0 0 0",))
        self.assertEqual(session.answer("worst"), ("worst 0 course",))
        self.refused(CommandError, ("mend 0",), session.answer, "mend 0")
        self.assertEqual(len(session), len(lines) + 2 + 0 + 1 + 1)
        session.load(TEXT)
        self.assertEqual(session.answer("threat cancel H"), ("threat 0",))
        self.assertEqual(session.answer("sell a Y F"), ("paid 50",))


class LinesTest(SessionCase):

    def test_sales(self):
        session = session_of()
        self.assertEqual(session.answer("ledger"), ("ledger 440 440 0 0 0",))
        self.assertEqual(session.answer("sold"), ("a Y F G", "b C H I", "c Y F"))
        self.assertEqual(session.answer("refund a"), ("back 0",))
        self.assertEqual(session.answer("refund c"), ("back 25",))
        self.assertEqual(session.answer("ledger"), ("ledger 415 300 0 0 115",))
        self.assertEqual(session.answer("sold"), ("b C H I",))
        self.assertEqual(session.answer("sell a_very_long_name_of_a_traveller Y F"), ("paid 50",))
        self.assertEqual(session.answer("sold"), ("b C H I", "a_very_long_name_of_a_traveller Y F"))

    def test_text(self):
        self.answers("text", *TEXT.splitlines())
        self.assertEqual(read_net("\n".join(session_of().answer("text"))), NET)

    def test_threats(self):
        session = session_of()
        self.assertEqual(session.answer("threat cancel J"), ("threat 3",))
        self.assertEqual(session.answer("threat late J 1440"), ("threat 4",))
        self.assertEqual(session.answer("threat late J 1"), ("threat 5",))
        self.assertEqual(session.answer("threat smaller F U"), ("threat 6",))
        self.assertEqual(session.answer("blame 0 5"), ("cancel F 0 3", "late J 1 0 0"))

    def test_settings(self):
        session = session_of()
        for line in ("events 0", "events 3", "bound 0", "bound 1000000", "price C 0 0", "price Y 1000000 1000000"):
            self.assertEqual(session.answer(line), ("ok",))
        self.assertEqual(session.answer("events 0"), ("ok",))
        self.assertEqual(session.answer("guard"), ("kept 1",))
        session.answer("events 3")
        # The money back of a and c costs 1000000 each in the class Y.
        self.assertEqual(session.answer("guard"), ("broken course cancel F late H 30",))
        self.assertEqual(session.answer("price Y 0 1"), ("ok",))
        self.assertEqual(session.answer("guard"), ("kept 8",))
        self.assertEqual(session.answer("bound 1"), ("ok",))
        self.assertEqual(session.answer("guard"), ("broken course cancel F late H 30",))
        # b, of the class C, gets the money back where I is missed.
        session.answer("price C 5 70")
        self.assertEqual(session.answer("mend 1"), ("least 70",))
        session.answer("price C 5 71")
        self.assertEqual(session.answer("mend 1"), ("least 71",))

    def test_days(self):
        self.answers("day", "F 100 160 3", "G 200 300 3", "H 100 180 2", "I 200 290 2", "J 400 600 3")
        self.answers("day 1 2", "F 100 160 3", "G 200 300 2", "H 130 210 2", "I 210 300 2", "J 400 600 3")
        self.answers("day 0", "F none", "G none", "H 100 180 2", "I 200 290 2", "J none")
        self.answers("broken 0", "a 0 A 100 cancelled", "c 0 A 100 cancelled")
        self.answers("broken 1", "b 1 D 210 missed")
        self.answers("broken")
        self.answers("blame 0 1", "cancel F 0 3", "late H 30 40 0")
        self.answers("blame")

    def test_the_book(self):
        self.answers("guard", "broken course late H 30")
        self.answers("worst", "worst 1180 course cancel F late H 30")
        self.answers("weak", "course late H 30")
        self.answers("mend 0", "least 90")
        self.answers("mend 1", "least 1000")
        self.answers("room Y F", "room -1")
        self.answers("room C J", "room -1")
        session = session_of()
        session.answer("price C 1 300")
        self.assertEqual(session.answer("guard"), ("broken course cancel F late H 30",))
        session.answer("bound 1000000")
        self.assertEqual(session.answer("guard"), ("kept 7",))
        self.assertEqual(session.answer("weak"), ("none",))
        self.assertEqual(session.answer("room Y F"), ("room 57",))

    def test_what_goes_on_in_one_line(self):
        # "and the course", "and the flights" go on in the line of the words ahead of them; `play` answers two lines.
        session = Session()
        session.load("(station A 0 30) (station B 0 30) (station C 0 30) (type T 9 20) (classes Y) "
                     "(flight F A B 0 60 T 100 (limits 9)) (flight G B C 95 150 T 100 (limits 9)) "
                     "(tail N T F) (tail M T G) (fare X A C Y 70 1 10 50)")
        told = []
        for line, lines in (
                ("promise F G", ("kept 150 course",)), ("sell Ann Y F G", ("paid 70",)), ("worst", ("worst 0 course",)),
                ("threat late F 10", ("threat 0",)), ("promise F G", ("broken 1 missed course late F 10",)),
                ("promise F", ("kept 70 course late F 10",)), ("worst", ("worst 1000 course late F 10",)),
                ("guard", ("broken course late F 10",)), ("weak", ("course late F 10",)),
                ("gates B 30", ("gates 2 65 course",)), ("gates A 30", ("gates 1 -30 course",)),
                ("holds 10 0", ("least 10 G",)), ("holds 10", ("least 0",)), ("holds 4 0", ("least 1000",)),
                ("play 0", ("least 1000", "ledger 35 0 35 0 0"))):
            self.assertEqual(session.answer(line), lines, line)
            told.extend(lines)
            self.assertEqual(list(session), told)
            self.assertEqual(len(session), len(told))

    def test_other_lines(self):
        self.answers("quote Y A C 1", "price 90 H I")
        self.answers("quote Y A C 0", "none")
        self.answers("quote C A C 3", "price 300 H I")
        self.answers("quote C A B 3", "none")
        self.answers("board A 0", "160 depart F", "160 depart H", "660 arrive J")
        self.answers("board A 1")
        self.answers("board B -1")
        self.answers("tails", "T 1", "U 1", "swaps 0")
        self.answers("duties 20 300", "duties 2")
        self.answers("duties 0 0", "duties 5")
        self.answers("gates B 30", "gates 1 160 course")
        self.answers("gates A 1440", "gates 2 -1340 course")
        self.answers("promise F G", "broken 0 cancelled course cancel F")
        self.answers("promise H I", "broken 1 missed course late H 30")
        self.answers("promise H", "kept 210 course late H 30")
        self.answers("safest A C 0", "none")
        self.answers("safest A D 0", "kept 210 H")
        self.answers("safest A D 101", "none")
        self.answers("safest D D 0", "none")
        self.answers("seats 0", "F none", "G none", "H 0", "I 0", "J none")
        self.answers("holds 30 1", "least 30 I")
        self.answers("holds 29 1", "least 1000")
        self.answers("play 0", "least 90", "ledger 390 0 390 0 0")
        self.answers("play 1", "least 1000", "ledger 307 0 307 0 0")
        session = Session()
        session.load("(station A 0 30) (station B 0 30) (type T 9 20) (classes Y) (flight F A B 0 20160 T 100 (limits 9)) "
                     "(tail N T F) (fare X A B Y 70 0 10 50)")
        self.assertEqual(session.answer("quote Y A B 0"), ("price 70 F",))
        self.assertEqual(session.answer("safest A B 0"), ("kept 20160 F",))
        session = Session()
        session.load("(station A 0 30) (classes Y)")
        self.assertEqual(session.answer("gates A 5"), ("gates 0 none course",))
        self.assertEqual(session.answer("play"), ("least 0", "ledger 0 0 0 0 0"))
        self.assertEqual(session.answer("day"), ())
        self.assertEqual(session.answer("tails"), ("swaps 0",))

    def test_answers_are_those_of_the_functions(self):
        for seed in range(60):
            chance = random.Random(seed)
            net = random_net(seed, tails=3, longest=4)
            text = write_net(net)
            session = session_of(text, ())
            office = Office(net)
            rows = [tuple(flight[0] for flight in row) for row in all_journeys(net)]
            for number in range(8):
                cabin, row = chance.choice(net[2]), chance.choice(rows)
                try:
                    price = office.sell(f"p{number}", cabin, row)
                except SaleError as error:
                    self.refused(SaleError, (error.reason,), session.answer, words("sell", f"p{number}", cabin, *row))
                    continue
                self.assertEqual(session.answer(words("sell", f"p{number}", cabin, *row)), (words("paid", price),))
            bookings = office.bookings()
            self.assertEqual(session.answer("sold"), tuple(words(name, cabin, *row) for name, cabin, row in bookings))
            threats = tuple(dict.fromkeys(random_course(seed, net) + random_course(seed + 900, net)))
            for place, event in enumerate(threats):
                self.assertEqual(session.answer(words("threat", *event)), (words("threat", place),))
            most, bound = chance.randint(0, 2), chance.choice((0, 60, 250))
            session.answer(words("events", most))
            session.answer(words("bound", bound))
            prices = (tuple(chance.randint(0, 5) for _ in net[2]), tuple(chance.randint(0, 500) for _ in net[2]))
            for cabin, minute, back in zip(net[2], *prices):
                session.answer(words("price", cabin, minute, back))
            self.compare(session, chance, net, office, (bookings, threats, most, prices, bound))

    def compare(self, session, chance, net, office, told):
        bookings, threats, most, prices, bound = told
        names = [row[0] for row in net[3]]
        course = chance.choice(courses(net, threats, 2))
        here = words("", *(threats.index(event) for event in course))[0 if course else 1:]
        stations = [row[0] for row in net[0]]
        start, end = chance.sample(stations, 2)
        row = tuple(flight[0] for flight in chance.choice(all_journeys(net)))
        cabin = chance.choice(net[2])

        def same(line, made):
            try:
                lines = made()
            except TooMany as error:
                self.refused(TooMany, (error.reason,), session.answer, line)
                return
            self.assertEqual(session.answer(line), tuple(lines), line)

        same("day" + here, lambda: [words(name, *(found or [None])) for name, found in zip(names, actual(net, course))])
        same("broken" + here, lambda: [words(booking[0], *found) for booking, found in
                                       zip(bookings, broken(net, bookings, course)) if found])
        same("mend" + here, lambda: [words("least", least_mend(net, bookings, course, prices)[0])])
        same("guard", lambda: self.told_guard(guard(net, bookings, threats, most, prices, bound)))
        same("worst", lambda: self.told_worst(worst(net, bookings, threats, most, prices)))
        same("weak", lambda: [course_line(one) for one in weak_courses(net, bookings, threats, most, prices, bound)] or ["none"])
        same(words("room", cabin, *row), lambda: [words("room", room_for(net, bookings, threats, most, prices, bound, cabin, row,
                                                                         60)[0])])
        stops = chance.randint(0, 3)
        same(words("quote", cabin, start, end, stops),
             lambda: self.told_quote(quote(net, bookings, cabin, start, end, 0, 20160, stops)[0]))
        same(words("board", start, 0), lambda: [words(*triple) for triple in board(net, start, 0)])
        same("tails", lambda: [words(*pair) for pair in least_tails(net)] + [words("swaps", len(swaps(net)))])
        same("duties 10 200", lambda: [words("duties", len(least_duties(net, (10, 200))[0]))])
        number, worst_one, time = least_gates(net, start, 30, threats, most)
        same(words("gates", start, 30), lambda: [words("gates", number, time, course_line(worst_one))])
        same(words("promise", *row), lambda: self.told_promise(promise(net, row, threats, most)))
        for back in (start, end):
            best = safest(net, start, back, 50, threats, most)
            same(words("safest", start, back, 50), lambda: [words("kept", best[0], *best[1])] if best else ["none"])
        same("seats" + here, lambda: [words(*pair) for pair in zip(names, seat_values(net, bookings, course, prices))])
        minutes = chance.choice((1, 20, 1440))
        same(words("holds", minutes) + here, lambda: self.told_holds(least_holds(
            net, bookings, course, prices, tuple((name, minutes) for name in names[:12]), 1)))
        same("play" + here, lambda: self.told_play(office, play(net, office.log(), course, prices)))
        same("blame" + here, lambda: [words(*event, *pair) for event, pair in zip(course, blame(net, course))])
        same("ledger", lambda: [words("ledger", *office.ledger())])
        same("text", lambda: write_net(net).splitlines())

    def told_guard(self, answer):
        return [words("kept", len(answer[1]))] if answer[0] == "kept" else [words("broken", course_line(answer[1]))]

    def told_worst(self, answer):
        return [words("worst", answer[0], course_line(answer[1]))]

    def told_quote(self, offer):
        return [words("price", offer[0], *offer[1])] if offer else ["none"]

    def told_promise(self, answer):
        if answer[0] == "kept":
            return [words("kept", answer[1], course_line(answer[2]))]
        return [words("broken", *answer[2:], course_line(answer[1]))]

    def told_holds(self, answer):
        return [words("least", answer[0], *(name for name, _ in answer[1]))]

    def told_play(self, office, answer):
        return [words("least", answer[0]), words("ledger", *(answer[2][-1] if answer[2] else office.ledger()))]


class HoldsTest(SessionCase):

    def session_of_two(self, ahead):
        """A session of a flight with two connections, behind so many flights of no use; the two are told last."""
        kinds = "(type T 9 20) (type U 9 20) (type V 9 20) (type W 9 20)"
        rows = [f"(flight X{number} A B {100 * number} {100 * number + 5} W 5 (limits 9 9))"
                f"(flight Y{number} B A {100 * number + 50} {100 * number + 55} W 5 (limits 9 9))" for number in range(ahead)]
        tail = " ".join(f"X{number} Y{number}" for number in range(ahead))
        session = Session()
        session.load(f"(station A 0 0) (station B 0 30) (station C 0 30) (station D 0 30) {kinds} (classes C Y)" + "".join(rows)
                     + "(flight F A B 0 60 T 100 (limits 9 9)) (flight G B C 90 150 U 100 (limits 9 9)) "
                     "(flight H B D 90 150 V 100 (limits 9 9))"
                     f"(tail M T F) (tail N U G) (tail O V H) (tail P W {tail})"
                     "(fare x A C Y 70 3 10 50) (fare y A D Y 70 3 10 50)")
        for line in ("sell a Y F G", "sell b Y F H", "threat late F 25"):
            session.answer(line)
        return session

    def test_one_hold_at_most(self):
        session = self.session_of_two(0)
        self.assertEqual(session.answer("mend 0"), ("least 2000",))
        self.assertEqual(session.answer("holds 25 0"), ("least 1025 G",))
        self.assertEqual(session.answer("holds 24 0"), ("least 2000",))
        self.assertEqual(session.answer("holds 30 0"), ("least 1030 G",))

    def test_the_first_twelve_flights(self):
        self.assertEqual(self.session_of_two(5).answer("holds 25 0"), ("least 1025 G",))
        # F is the eleventh flight, or the thirteenth one; G stands behind it.
        self.assertEqual(self.session_of_two(6).answer("holds 25 0"), ("least 2000",))


class WrongLinesTest(SessionCase):

    def test_values_that_are_no_lines(self):
        self.wrong_line(*[value for value in VALUES], ["text"], ("text",), b"text", "", " ", "  ")

    def test_spaces(self):
        for line in LINES:
            self.wrong_line(" " + line, line + " ", line + "\n", "\n" + line, line + "\t", line + " \n", line.upper())
            if " " in line:
                self.wrong_line(line.replace(" ", "  "), line.replace(" ", "\n"), line.replace(" ", "\t", 1))

    def test_words_that_are_no_words(self):
        self.wrong_line("sell a-b Y F", "sell _a Y F", "sell 5 Y F", "sell 5a Y F", "refund 5", "refund -", "bound +5", "bound 5.0",
                        "bound 05", "bound -0", "text!", "(text)", "sell \u00e9 Y F", "bound \u0665", "events \u00b2")

    def test_first_words(self):
        self.wrong_line("texts", "tex", "help", "course", "none", "5", "threat", "threat late", "threat swap F",
                        "threat cancels F", "cancel F", "late F 5", "fly F", "change a F", "load", "takings", "-5")

    def test_too_few_words_and_too_many(self):
        for line in LINES:
            if line.split(" ")[0] not in ("day", "broken", "mend", "seats", "play", "blame", "holds"):
                self.wrong_line(line + " X", line + " 0", line + " -1")
        for line in ("sell d Y F", "refund a", "threat cancel J", "threat late J 5", "threat smaller F U", "events 1", "bound 5",
                     "price Y 1 1", "room Y F", "quote Y A C 1", "board A 0", "duties 20 300", "gates B 30", "promise F",
                     "safest A C 0", "holds 5"):
            parts = line.split(" ")
            self.wrong_line(*(" ".join(parts[:many]) for many in range(1, len(parts))))

    def test_names(self):
        self.wrong_line("sell d X F", "sell d Y X", "sell d Y F X", "sell d F Y", "sell d 0 F", "sell d Y 0", "sell d Y A",
                        "threat cancel X", "threat cancel A", "threat late X 5", "threat smaller F X", "threat smaller X U",
                        "threat smaller F 5", "price X 1 1", "price 5 1 1", "room X F", "room Y X", "room Y F X", "room F Y",
                        "quote X A C 1", "quote Y X C 1", "quote Y A X 1", "quote Y A A 1", "board X 0", "board F 0", "gates X 5",
                        "promise X", "promise F X", "promise A", "safest X A 0", "safest A X 0", "promise", "room Y", "sell d Y")

    def test_numbers(self):
        for head, low, high, tail in (
                ("threat late J", 1, 1440, ""), ("events", 0, 3, ""), ("bound", 0, 1000000, ""), ("price Y", 0, 1000000, " 5"),
                ("price Y 5", 0, 1000000, ""), ("quote Y A C", 0, 3, ""), ("board A", -1, 15, ""), ("duties", 0, 1440, " 1440"),
                ("duties 0", 0, 1440, ""), ("gates A", 1, 1440, ""), ("safest A C", 0, 20160, ""), ("holds", 1, 1440, ""),
                ("day", 0, 2, ""), ("blame 0", 1, 2, "")):
            for number in (low, high):
                session_of().answer(f"{head} {number}{tail}")
            self.wrong_line(*(f"{head} {word}{tail}" for word in (low - 1, high + 1, -5, f"0{high}", "1000000000", "9" * 40, "x",
                                                                  "-0", "00", "01")))
        self.wrong_line("duties 21 20", "duties 5", "duties -1 5")

    def test_places(self):
        for word in ("day", "broken", "mend", "seats", "holds 5", "play", "blame"):
            self.wrong_line(word + " 1 0", word + " 0 0", word + " 3", word + " 0 1 3", word + " -1", word + " x", word + " 00")
        # Two threats of one flight make no course, and four threats neither.
        session = session_of()
        session.answer("threat late F 5")
        session.answer("threat cancel I")
        for word in ("day", "broken", "mend", "seats", "holds 5", "play", "blame"):
            self.wrong_line(word + " 0 3", word + " 0 1 3", word + " 0 1 2 4", session=session)
            session.answer(word + " 1 2 3")
            session.answer(word + " 0 1 4")
        # A course may have more events than the greatest number that is set.
        session.answer("events 0")
        session.answer("day 0 1 2")

    def test_any_lines(self):
        chance = random.Random(5)
        session = session_of()
        vocabulary = " ".join(LINES).split(" ") + ["X", "-1", "", "7", "999999999", "smaller", "cancel"]
        for _ in range(1500):
            line = " ".join(chance.choice(vocabulary) for _ in range(chance.randint(1, 5)))
            many = len(session)
            try:
                answer = session.answer(line)
            except (CommandError, SaleError, ArgumentError, TooMany):
                self.assertEqual(len(session), many)
            else:
                self.assertIs(type(answer), tuple)
                self.assertEqual(list(session)[many:], list(answer))


class ErrorsTest(SessionCase):

    def unchanged(self, error, told, *lines, session=None):
        session = session or session_of()
        kept = self.state(session)
        many, lines_before = len(session), list(session)
        for line in lines:
            self.refused(error, told, session.answer, line)
            self.assertEqual((len(session), list(session)), (many, lines_before))
        self.assertEqual(self.state(session), kept)

    def test_sales(self):
        self.unchanged(SaleError, ("name",), "sell a Y F")
        self.unchanged(SaleError, ("journey",), "sell d Y G F", "sell d Y F F", "sell d Y F G J F G")
        self.unchanged(SaleError, ("seats",), "sell d Y J", "sell d Y F")
        self.unchanged(SaleError, ("fare",), "sell d C G")
        self.unchanged(SaleError, ("unknown",), "refund d", "refund F")
        session = session_of()
        session.answer("refund a")
        self.unchanged(SaleError, ("open",), "refund a", session=session)
        self.unchanged(SaleError, ("name",), "sell a Y F", session=session)

    def test_threats(self):
        self.unchanged(ArgumentError, ("threats",), "threat cancel F", "threat late H 30", "threat smaller H T",
                       "threat smaller F T", "threat smaller H U")
        session = session_of()
        for number in range(9):
            session.answer(f"threat late I {number + 1}")
        self.unchanged(ArgumentError, ("threats",), "threat late I 10", session=session)

    def test_journeys(self):
        self.unchanged(ArgumentError, ("journey",), "room Y G F", "promise G F", "promise F F", "room Y F F")

    def test_too_many(self):
        session = Session()
        session.load(write_net(line_of_flights(8)))
        for place, size in enumerate((2, 2, 2, 2, 1, 1, 1, 1)):
            for minutes in range(size):
                session.answer(f"threat late f{place} {minutes + 1}")
        session.answer("events 3")
        for line in ("guard", "worst", "weak", "room Y f0", "promise f0", "safest A B 0", "gates A 5"):
            self.refused(TooMany, ("courses",), session.answer, line)
        session = Session()
        net = fan(7, 8, 4)
        session.load(write_net(net[:5] + ((("x", "A", "C", "Y", 5, 3, 0, 0),),)))
        session.answer("sell a Y F")
        session.answer("threat cancel F")
        many = len(session)
        for line in ("mend 0", "guard", "worst", "weak", "room Y F", "seats 0", "holds 5 0", "play 0"):
            self.refused(TooMany, ("ways",), session.answer, line)
        self.assertEqual(len(session), many)

    def test_walking_with_errors_between(self):
        session = Session()
        session.load(TEXT)
        told = []
        for line in ("ledger", "guards", "sell a Y F", "sell a Y F", "sold", "mend 0", "refund b", "ledger"):
            try:
                told.extend(session.answer(line))
            except InterlineError:
                pass
        self.assertEqual(told, ["ledger 0 0 0 0 0", "paid 50", "a Y F", "ledger 50 50 0 0 0"])
        self.assertEqual(list(session), told)
        self.assertEqual(len(session), 4)
        self.assertEqual([word for word in session], [word for word in session])
        session.load("(classes Y)")
        self.assertEqual(len(session), 4)
        self.assertEqual(session.answer("tails"), ("swaps 0",))
        self.assertEqual(list(session), told + ["swaps 0"])

    def test_sessions_are_apart(self):
        one, other = session_of(), Session()
        other.load("(classes Y)")
        self.assertEqual(other.answer("sold"), ())
        self.assertEqual(len(one.answer("sold")), 3)
        self.assertEqual(len(other), 0)


if __name__ == "__main__":
    unittest.main()
