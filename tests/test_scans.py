"""Points 54 to 56: logs of scanned bags."""

import random
import unittest

from interline.bags import forward, short
from interline.errors import InterlineError, LogError
from interline.scans import judge, scan_plan
from tests.samples import NET, VALUES, Case, net_of, random_bookings, random_net, with_value
from tests.test_broken import WRONG_BOOKINGS, told_breaks
from tests.test_courses import random_course

# At B a bag needs 60 minutes; G departs 40 behind F, and K much later.
FLIGHTS = [("F", "A", "B", 100, 160), ("G", "B", "C", 200, 300), ("K", "B", "C", 500, 600), ("J", "C", "A", 700, 800)]
NET1 = net_of(FLIGHTS, stations=(("A", 0, 30), ("B", 0, 40), ("C", 0, 30)))
BOOKINGS = (("a", "Y", ("F", "G")), ("b", "Y", ("F",)), ("c", "Y", ("F", "K")))
LEFT = ((90, "in", "t", "a"), (95, "load", "t", "F"), (160, "off", "t", "B"), (200, "rush", "t", "B"),
        (300, "load", "t", "K"), (600, "off", "t", "C"), (601, "out", "t", "C"))


def told_reason(net, bookings, flown, breaks, history, entry):
    """The first reason of point 55 that an entry breaks behind right ones, read off these each time; or None."""
    if (type(entry) is not tuple or len(entry) != 4 or type(entry[0]) is not int
            or [type(part) for part in entry[1:]] != [str] * 3
            or entry[1] not in ("in", "load", "off", "rush", "out")):
        return "entry"
    time, word, tag, name = entry
    if history and time < history[-1][0]:
        return "time"
    mine = [row for row in history if row[2] == tag]
    if word == "in":
        if mine:
            return "tag"
    elif not mine or mine[-1][1] == "out":
        return "tag"
    least = {row[0]: row[2] for row in net[0]}
    start = {row[0]: row[1] for row in net[3]}
    end = {row[0]: row[2] for row in net[3]}
    travels = {who: (journey, found) for (who, _, journey), found in zip(bookings, breaks)}
    if word == "in":
        if name not in travels:
            return "name"
        first = flown[travels[name][0][0]]
        return None if first and first[0] >= time else "late"
    journey, found = travels[mine[0][3]]
    carried = journey[:found[0]] if found else journey
    moves = [row for row in mine if row[1] in ("load", "off")]
    stands = start[journey[0]]
    flies = None
    if moves and moves[-1][1] == "load":
        stands, flies = None, moves[-1][3]
    elif moves:
        stands = moves[-1][3]
    taken = [row[0] for row in moves if row[1] == "off"]
    if word == "load":
        if flown.get(name) is None:
            return "flight"
        if stands != start[name]:
            return "place"
        if flown[name][0] < time:
            return "gone"
        if taken and flown[name][0] < taken[-1] + least[stands] + 20:
            return "soon"
        return None if "rush" in [row[1] for row in mine] or name in carried else "alone"
    if word == "off":
        if flies is None or end[flies] != name:
            return "place"
        return "early" if time < flown[flies][1] else None
    if stands != name:
        return "place"
    if word == "rush":
        since = taken[-1] if taken else -10 ** 9
        fits = [flight for flight in carried if start[flight] == name and since <= flown[flight][0] <= time]
        return None if fits else "waits"
    if end[journey[-1]] == name or (found and start[journey[found[0]]] == name):
        return None
    return "end"


def told_states(net, bookings, history):
    rows = []
    start = {row[0]: row[1] for row in net[3]}
    journeys = {who: journey for who, _, journey in bookings}
    for _, word, tag, name in history:
        if word == "in":
            rows.append([tag, "stands", start[journeys[name][0]]])
        for row in rows:
            if row[0] == tag and word == "load":
                row[1:] = ["flies", name]
            if row[0] == tag and word in ("off", "out"):
                row[1:] = ["stands" if word == "off" else "out", name]
    return tuple(map(tuple, rows))


class JudgeTest(Case):

    def fails(self, number, reason, scans, bookings=BOOKINGS, course=(), net=NET1):
        self.refused(LogError, (number, reason), judge, net, bookings, course, scans)

    def test_states(self):
        told = [judge(NET1, BOOKINGS, (), LEFT[:end]) for end in range(8)]
        self.assertEqual(told, [(), (("t", "stands", "A"),), (("t", "flies", "F"),), (("t", "stands", "B"),),
                                (("t", "stands", "B"),), (("t", "flies", "K"),), (("t", "stands", "C"),),
                                (("t", "out", "C"),)])

    def test_several_bags(self):
        log = ((0, "in", "", "c"), (0, "in", "a b", "a"), (7, "in", "2", "c"), (50, "load", "2", "F"),
               (100, "load", "", "F"), (170, "off", "2", "B"), (500, "load", "2", "K"))
        self.assertEqual(judge(NET1, BOOKINGS, (), log),
                         (("", "flies", "F"), ("a b", "stands", "A"), ("2", "flies", "K")))
        self.assertEqual(judge(NET1, (), (), ()), ())

    def test_entries(self):
        for entry in (None, 5, (), (90, "in", "u"), (90, "in", "u", "a", 1), ("90", "in", "u", "a"),
                      (True, "in", "u", "a"), (90, "In", "u", "a"), (90, "", "u", "a"), (90, 1, "u", "a"),
                      (90, "in", 1, "a"), (90, "in", "u", None), (90, "in", ("u",), "a"), (None, "in", "u", "a"),
                      [90, "in", "u", "a"], (90, ("in",), "u", "a"), (90, "stands", "u", "a")):
            self.fails(0, "entry", (entry,))
            self.fails(2, "entry", (*LEFT[:2], entry, None))

    def test_times(self):
        self.fails(1, "time", ((90, "in", "t", "a"), (89, "in", "t", "x")))
        self.fails(3, "time", (*LEFT[:3], (159, "load", "x", "X")))
        self.assertEqual(judge(NET1, BOOKINGS, (), ((-10 ** 9, "in", "t", "a"), (100, "in", "u", "a")))[1][0], "u")
        # Only the entry before counts, whatever bag it was for.
        self.fails(2, "time", ((5, "in", "t", "a"), (90, "in", "u", "b"), (80, "load", "t", "F")))

    def test_tags(self):
        self.fails(1, "tag", ((90, "in", "t", "a"), (90, "in", "t", "x")))
        for word in ("load", "off", "rush", "out"):
            self.fails(0, "tag", ((90, word, "t", "x"),))
            self.fails(1, "tag", ((90, "in", "t", "a"), (90, word, "u", "x")))
            self.fails(7, "tag", (*LEFT, (601, word, "t", "x")))
        self.fails(7, "tag", (*LEFT, (601, "in", "t", "a")))

    def test_in(self):
        for name in ("x", "", "F", "A", "Y"):
            self.fails(0, "name", ((200, "in", "t", name),))
        self.assertEqual(judge(NET1, BOOKINGS, (), ((100, "in", "t", "a"),)), (("t", "stands", "A"),))
        self.fails(0, "late", ((101, "in", "t", "a"),))
        self.assertEqual(judge(NET1, BOOKINGS, (("late", "F", 5),), ((105, "in", "t", "a"),)), (("t", "stands", "A"),))
        self.fails(0, "late", ((106, "in", "t", "a"),), course=(("late", "F", 5),))
        self.fails(0, "late", ((0, "in", "t", "a"),), course=(("cancel", "F"),))

    def test_load(self):
        bag = ((90, "in", "t", "a"),)
        for name in ("X", "A", "", "a"):
            self.fails(1, "flight", (*bag, (900, "load", "t", name)))
        self.fails(1, "flight", (*bag, (90, "load", "t", "G")), course=(("cancel", "G"),))
        for name in ("G", "K", "J"):
            self.fails(1, "place", (*bag, (900, "load", "t", name)))
        self.fails(2, "place", (*LEFT[:2], (95, "load", "t", "F")))
        self.fails(1, "gone", (*bag, (101, "load", "t", "F")))
        self.assertEqual(judge(NET1, BOOKINGS, (("late", "F", 1),), (*bag, (101, "load", "t", "F")))[0][1], "flies")
        # The traveller goes on G, but the bag has only 40 minutes.
        self.fails(3, "soon", (*LEFT[:3], (160, "load", "t", "G")))
        self.fails(4, "soon", (*LEFT[:3], (200, "rush", "t", "B"), (200, "load", "t", "G")))
        self.fails(3, "gone", (*LEFT[:3], (201, "load", "t", "G")))

    def test_soon_by_one_minute(self):
        net = with_value(NET1, 0, 1, 2, 20)
        self.assertEqual(judge(net, BOOKINGS, (), (*LEFT[:3], (160, "load", "t", "G")))[0][1], "flies")
        late = (*LEFT[:2], (161, "off", "t", "B"), (161, "load", "t", "G"))
        self.fails(3, "soon", late, net=net)
        net = with_value(NET1, 0, 1, 2, 21)
        self.fails(3, "soon", (*LEFT[:3], (160, "load", "t", "G")), net=net)
        self.assertEqual(judge(net, BOOKINGS, (("late", "G", 1),), (*LEFT[:3], (160, "load", "t", "G")))[0][1], "flies")

    def test_alone(self):
        self.fails(3, "alone", (*LEFT[:3], (300, "load", "t", "K")))
        self.fails(1, "alone", ((90, "in", "t", "a"), (90, "load", "t", "F")),
                   bookings=(("a", "Y", ("F",)), *((str(place), "Y", ("F",)) for place in range(9)))[::-1])
        # The mark stays on the bag.
        log = (*LEFT[:6], (650, "load", "t", "J"))
        self.assertEqual(judge(NET1, BOOKINGS, (), log), (("t", "flies", "J"),))

    def test_off(self):
        self.fails(1, "place", ((90, "in", "t", "a"), (90, "off", "t", "A")))
        for name in ("A", "C", "X", "F"):
            self.fails(2, "place", (*LEFT[:2], (900, "off", "t", name)))
        self.fails(3, "place", (*LEFT[:3], (900, "off", "t", "B")))
        self.fails(2, "early", (*LEFT[:2], (159, "off", "t", "B")))
        self.fails(2, "early", (*LEFT[:2], (160, "off", "t", "B")), course=(("late", "F", 1),))

    def test_rush(self):
        for name in ("A", "C", "X", "K"):
            self.fails(3, "place", (*LEFT[:3], (900, "rush", "t", name)))
        self.fails(2, "place", (*LEFT[:2], (900, "rush", "t", "A")))
        self.fails(3, "waits", (*LEFT[:3], (199, "rush", "t", "B")))
        self.fails(3, "waits", (*LEFT[:3], (200, "rush", "t", "B")), course=(("late", "G", 1),))
        # The bag came when the traveller was gone already.
        self.assertEqual(judge(NET1, BOOKINGS, (), (*LEFT[:2], (200, "off", "t", "B"), (205, "rush", "t", "B")))[0][1],
                         "stands")
        self.fails(3, "waits", (*LEFT[:2], (201, "off", "t", "B"), (205, "rush", "t", "B")))
        # Only a flight from where the bag stands counts, not the next one of the traveller.
        both = (("a", "Y", ("F", "G", "J")),)
        self.fails(3, "waits", (*LEFT[:2], (201, "off", "t", "B"), (900, "rush", "t", "B")), bookings=both)
        # A bag that was never on a flight is left behind, too.
        log = ((90, "in", "t", "a"), (100, "rush", "t", "A"))
        self.assertEqual(judge(NET1, BOOKINGS, (), log), (("t", "stands", "A"),))
        self.fails(1, "waits", ((90, "in", "t", "a"), (99, "rush", "t", "A")))
        # The traveller is not carried on the flight.
        self.fails(3, "waits", (*LEFT[:3], (900, "rush", "t", "B")), course=(("cancel", "G"),))
        self.fails(3, "waits", ((90, "in", "t", "b"), *LEFT[1:3], (900, "rush", "t", "B")))

    def test_out(self):
        for name in ("A", "C", "X"):
            self.fails(3, "place", (*LEFT[:3], (900, "out", "t", name)))
        self.fails(2, "place", (*LEFT[:2], (900, "out", "t", "B")))
        self.fails(3, "end", (*LEFT[:3], (900, "out", "t", "B")))
        self.fails(1, "end", ((90, "in", "t", "a"), (90, "out", "t", "A")))
        for course in ((("cancel", "G"),), (("late", "F", 1), ("cancel", "J"))):
            log = (*LEFT[:2], (165, "off", "t", "B"), (165, "out", "t", "B"))
            self.assertEqual(judge(NET1, BOOKINGS, course, log), (("t", "out", "B"),))
            self.fails(2, "end", (LEFT[0], (90, "in", "u", "c"), (90, "out", "t", "A")), course=course)
        # Bumped at the first flight: the bag comes back where it was handed in.
        many = tuple((str(place), "Y", ("F",)) for place in range(9)) + BOOKINGS[:1]
        self.assertEqual(judge(NET1, many, (), (LEFT[0], (90, "out", "t", "A"))), (("t", "out", "A"),))

    def test_two_faults_in_one_entry(self):
        self.fails(1, "entry", ((90, "in", "t", "a"), (80, "lift", "t", "a")))
        self.fails(1, "time", ((90, "in", "t", "a"), (80, "in", "t", "a")))
        self.fails(1, "tag", ((90, "in", "t", "a"), (999, "in", "t", "x")))
        self.fails(1, "name", ((90, "in", "t", "a"), (999, "in", "u", "x")))
        self.fails(1, "flight", ((90, "in", "t", "b"), (999, "load", "t", "X")))
        self.fails(1, "place", ((90, "in", "t", "b"), (999, "load", "t", "K")))
        self.fails(3, "gone", ((90, "in", "t", "b"), *LEFT[1:3], (999, "load", "t", "K")))
        self.fails(3, "soon", ((90, "in", "t", "b"), *LEFT[1:3], (170, "load", "t", "G")))
        self.fails(2, "place", (*LEFT[:2], (100, "off", "t", "C")))
        self.fails(2, "place", (*LEFT[:2], (100, "rush", "t", "B")))
        self.fails(2, "place", (*LEFT[:2], (100, "out", "t", "A")))

    def test_no_scans(self):
        for value in (*VALUES, [], list(LEFT), {}):
            if not isinstance(value, tuple) or len(value) > 700:
                self.wrong_argument("scans", judge, NET1, BOOKINGS, (), value)
            elif value != ():
                self.refused(LogError, (0, "entry"), judge, NET1, BOOKINGS, (), value)
        self.survives(judge, (NET1, BOOKINGS, (), LEFT), InterlineError)
        for entry in LEFT[:2]:
            self.survives(lambda *parts: judge(NET1, BOOKINGS, (), (LEFT[0], parts)), entry, LogError)

    def test_long_logs(self):
        log = tuple((0, "in", str(place), "a") for place in range(700))
        self.assertEqual(len(judge(NET1, BOOKINGS, (), log)), 700)
        self.wrong_argument("scans", judge, NET1, BOOKINGS, (), log + ((0, "in", "x", "a"),))
        self.wrong_argument("scans", judge, NET1, BOOKINGS, (), (None,) * 701)

    def test_order_of_the_errors(self):
        for function in (judge, scan_plan):
            self.asks_the_net_first(function, None, None, None)
            for value in WRONG_BOOKINGS:
                self.wrong_argument("bookings", function, NET, value, (), None)
                self.wrong_argument("course", function, NET, value, (("cancel", "X"),), None)
            for value in VALUES:
                if value != ():
                    self.wrong_argument("course", function, NET, None, value, None)

    def test_against_the_words(self):
        reasons = {}
        for seed in range(220):
            chance = random.Random(seed)
            net = random_net(seed, tails=4, longest=7)
            bookings = random_bookings(seed, net, 6)
            course = random_course(seed, net)
            flown, breaks = told_breaks(net, bookings, course)
            log = []
            for entry in self.random_entries(chance, net, bookings, course):
                word = entry[1]
                reason = told_reason(net, bookings, flown, breaks, log, entry)
                if reason:
                    reasons[word, reason] = reasons.get((word, reason), 0) + 1
                    self.fails(len(log), reason, (*log, entry), bookings, course, net)
                else:
                    log.append(entry)
                    reasons[word] = reasons.get(word, 0) + 1
            self.assertEqual(judge(net, bookings, course, tuple(log)), told_states(net, bookings, log))
        wanted = {"in": ("time", "tag", "name", "late"), "load": ("time", "tag", "flight", "place", "gone", "soon", "alone"),
                  "off": ("time", "tag", "place", "early"), "rush": ("time", "tag", "place", "waits"),
                  "out": ("time", "tag", "place", "end")}
        for word, told in wanted.items():
            self.assertIn(word, reasons)
            for reason in told:
                self.assertIn((word, reason), reasons)

    def random_entries(self, chance, net, bookings, course):
        """Entries of a plan, of which some are left out, changed, or have others beside them."""
        names = [row[0] for row in bookings]
        bags = tuple((f"t{place}", chance.choice(names)) for place in range(4) if names)
        plan = scan_plan(net, bookings, course, bags)
        choices = {"in": [*names, "x"], "load": [row[0] for row in net[3]]}
        told = []
        for time, word, tag, name in plan:
            if chance.random() < 0.9:
                told.append((time + chance.choice((0, 0, 0, 0, -1, 1, 20)), word, tag, name))
            for _ in range(2):
                word = chance.choice(("in", "load", "load", "off", "off", "rush", "out"))
                other = name if chance.random() < 0.5 else chance.choice(choices.get(word, "ABCD"))
                told.append((time + chance.choice((0, 0, 0, -30)), word, chance.choice((tag, tag, "t0")), other))
        return told


class ScanPlanTest(Case):

    def test_plans(self):
        bags = (("t", "a"), ("u", "c"), ("v", "b"), ("w", "a"))
        self.is_plan(NET1, BOOKINGS, (), bags)
        self.is_plan(NET1, BOOKINGS, (("cancel", "K"),), bags)
        self.is_plan(NET1, BOOKINGS, (("cancel", "F"),), bags)
        self.is_plan(NET1, BOOKINGS, (("cancel", "G"),), bags)
        self.assertEqual(scan_plan(NET1, BOOKINGS, (), ()), ())
        self.assertEqual(scan_plan(NET1, BOOKINGS, (("cancel", "F"),), bags), ())
        states = judge(NET1, BOOKINGS, (("cancel", "K"),), scan_plan(NET1, BOOKINGS, (("cancel", "K"),), bags))
        self.assertEqual(dict(row[:2] for row in states), {"t": "stands", "u": "out", "v": "out", "w": "stands"})

    def is_plan(self, net, bookings, course, bags):
        """The log is accepted and does with each bag what point 56 tells."""
        log = scan_plan(net, bookings, course, bags)
        self.assertLessEqual(len(log), 700)
        states = {tag: (state, place) for tag, state, place in judge(net, bookings, course, log)}
        flown, breaks = told_breaks(net, bookings, course)
        rows = {name: row for (name, _, _), *row in zip(bookings, breaks, short(net, bookings, course),
                                                        forward(net, bookings, course))}
        journeys = {name: journey for name, _, journey in bookings}
        ends = {row[0]: row[2] for row in net[3]}
        kinds = set()
        for tag, name in bags:
            found, left, home = rows[name]
            carried = journeys[name][:found[0]] if found else journeys[name]
            mine = [row for row in log if row[2] == tag]
            if not carried:
                self.assertEqual((mine, tag in states), ([], False))
                continue
            self.assertEqual(mine[0][3], name)
            loaded = tuple(row[3] for row in mine if row[1] == "load")
            with_traveller = carried if left is None else carried[:left[0]]
            self.assertEqual(loaded[:len(with_traveller)], with_traveller)
            if left is None:
                self.assertEqual(loaded, carried)
                self.assertEqual(states[tag], ("out", ends[carried[-1]]))
            elif home == ():
                self.assertEqual(loaded, with_traveller)
                self.assertEqual(states[tag], ("stands", left[1]))
            else:
                self.assertEqual(states[tag], ("out", ends[journeys[name][-1]]))
                last = [row for row in mine if row[1] == "off"][-1]
                self.assertEqual((last[0], last[3]), (home[0], ends[journeys[name][-1]]))
            kinds.add((left is None, home and len(home[1]) > 0, found is None))
        self.assertEqual(set(states), {row[2] for row in log})
        return kinds

    def test_against_the_words(self):
        kinds = set()
        for seed in range(400):
            chance = random.Random(seed)
            net = random_net(seed, tails=5, longest=7)
            bookings = random_bookings(seed, net, 8)
            names = [row[0] for row in bookings]
            bags = tuple((f"t{place}", chance.choice(names)) for place in range(chance.randint(0, 20)) if names)
            kinds |= self.is_plan(net, bookings, random_course(seed, net), bags)
        self.assertLessEqual({(True, None, True), (True, None, False), (False, True, True), (False, (), True),
                              (False, False, True), (False, True, False)}, kinds)

    def test_long_plans(self):
        flights = [("F", "A", "B", 0, 60), ("G", "B", "L", 90, 150)]
        flights += [(f"f{place}", "BCDEFGHIJKL"[place], "CDEFGHIJKLA"[place], 200 * place + 200, 200 * place + 300)
                    for place in range(10)]
        net = net_of(flights)
        bags = tuple((str(place), "a") for place in range(20))
        log = scan_plan(net, (("a", "Y", ("F", "G")),), (), bags)
        self.assertEqual(len(log), 20 * (3 + 2 * 11))
        self.is_plan(net, (("a", "Y", ("F", "G")),), (), bags)
        self.wrong_argument("bags", scan_plan, net, (("a", "Y", ("F", "G")),), (), bags + (("20", "a"),))

    def test_wrong_bags(self):
        for value in (None, 5, "t", [("t", "a")], ("t", "a"), (("t",),), (("t", "a", 1),), (("t", "x"),), ((1, "a"),),
                      (("t", 1),), (("t", None),), (("t", "a"), ("t", "b")), (("t", "a"), ("t", "a")), (["t", "a"],),
                      (("t", ("a",)),), True):
            self.wrong_argument("bags", scan_plan, NET1, BOOKINGS, (), value)
        self.wrong_argument("bags", scan_plan, NET1, (), (), (("t", "a"),))
        self.assertEqual(len(scan_plan(NET1, BOOKINGS, (), (("", "b"), ("a b", "b")))), 8)
        for value in VALUES:
            if value != ():
                self.wrong_argument("bags", scan_plan, NET1, BOOKINGS, (), value)
        self.survives(scan_plan, (NET1, BOOKINGS, (), (("t", "a"),)), InterlineError)


if __name__ == "__main__":
    unittest.main()
