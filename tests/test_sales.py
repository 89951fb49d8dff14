"""Points 42 and 43: logs of sales."""

import random
import unittest

from interline.choosing import choose
from interline.errors import ArgumentError, InterlineError, LogError
from interline.inventory import group
from interline.sales import history, replay
from interline.words import read_net
from tests.samples import NET, VALUES, Case, all_journeys, net_of, random_net

SMALL = ("(station A 0 30) (station B 0 30) (type T 9 20) (classes C Y)"
         "(flight F A B 0 60 T 100 (limits 2 1)) (tail N T F)")


def sell(name, cabin="Y", journey=("F",)):
    return ("sell", name, cabin, journey)


def wait(name, cabin="Y", journey=("F",)):
    return ("wait", name, cabin, journey)


def told_reason(net, sold, waiting, entry):
    """What point 43 tells, word for word; None if the entry can be done."""
    forms = {"sell": 4, "wait": 4, "cancel": 2, "leave": 2}
    if type(entry) is not tuple or not entry or type(entry[0]) is not str or forms.get(entry[0]) != len(entry):
        return "entry"
    word, name = entry[:2]
    if word == "cancel":
        return None if name in [row[0] for row in sold] else "unknown"
    if word == "leave":
        return None if name in [row[0] for row in waiting] else "unknown"
    if type(name) is not str or name in [row[0] for row in sold + waiting]:
        return "name"
    if entry[2] not in net[2]:
        return "class"
    if entry[3] not in [tuple(flight[0] for flight in row) for row in all_journeys(net)]:
        return "journey"
    if len(sold) + len(waiting) > 59:
        return "many"
    free = group(net, tuple(sold), entry[3], entry[2]) > 0
    return {("sell", False): "seats", ("wait", True): "room"}.get((word, free))


def told_replay(net, log):
    """The bookings, the waiting list and the history behind a log, or the number and the reason of an error."""
    sold, waiting, told = [], [], []
    for number, entry in enumerate(log):
        reason = told_reason(net, sold, waiting, entry)
        if reason:
            return (number, reason)
        before = len(sold)
        if entry[0] == "sell":
            sold.append(entry[1:])
        elif entry[0] == "wait":
            waiting.append(entry[1:])
        elif entry[0] == "leave":
            waiting = [row for row in waiting if row[0] != entry[1]]
        else:
            sold = [row for row in sold if row[0] != entry[1]]
            before = len(sold)
            stay = []
            for row in waiting:
                (sold if group(net, tuple(sold), row[2], row[1]) > 0 else stay).append(row)
            waiting = stay
        told.append(tuple(row[0] for row in sold[before:]))
    return tuple(sold), tuple(waiting), tuple(told)


class ReplayTest(Case):

    def test_examples(self):
        net = read_net(SMALL)
        self.assertEqual(choose(net, (), "F", (("a", "Y", 50), ("b", "Y", 70), ("c", "C", 40))),
                         (110, ("b", "c"), (1, None, None)))
        log = (sell("a"), wait("b"), ("cancel", "a"))
        self.assertEqual(replay(net, log), ((("b", "Y", ("F",)),), ()))

    def fails(self, log, number, reason, net=NET):
        self.refused(LogError, (number, reason), replay, net, log)
        self.refused(LogError, (number, reason), history, net, log)

    def test_each_kind_of_entry(self):
        log = (sell("a"), sell("b", "C", ("F", "G")), sell("c"), wait("d"), wait("e"), ("leave", "d"), ("cancel", "b"),
               ("cancel", "a"), ("cancel", "c"), ("cancel", "e"))
        states = [replay(NET, log[:end]) for end in range(len(log) + 1)]
        names = [tuple(tuple(row[0] for row in part) for part in state) for state in states]
        self.assertEqual(names, [
            ((), ()), (("a",), ()), (("a", "b"), ()), (("a", "b", "c"), ()), (("a", "b", "c"), ("d",)),
            (("a", "b", "c"), ("d", "e")), (("a", "b", "c"), ("e",)), (("a", "c"), ("e",)), (("c", "e"), ()),
            (("e",), ()), ((), ())])
        self.assertEqual(states[2][0], (("a", "Y", ("F",)), ("b", "C", ("F", "G"))))
        self.assertEqual(history(NET, log), (("a",), ("b",), ("c",), (), (), (), (), ("e",), (), ()))
        self.assertEqual((replay(NET, ()), history(NET, ())), (((), ()), ()))

    def test_a_cancelling_that_sells_several(self):
        net = net_of([("F", "A", "B", 0, 60, "T", (2, 1)), ("G", "B", "C", 100, 160, "T", (1, 1))], classes=("C", "Y"))
        log = (sell("a", "Y", ("F", "G")), wait("d", "Y", ("F", "G")), wait("b", "Y", ("F",)), wait("c", "C", ("G",)),
               wait("e", "Y", ("G",)), ("cancel", "a"))
        self.assertEqual(history(net, log)[-1], ("d",))
        log = (*log[:1], *log[2:])
        self.assertEqual(history(net, log)[-1], ("b", "c"))
        self.assertEqual(replay(net, log), ((("b", "Y", ("F",)), ("c", "C", ("G",))), (("e", "Y", ("G",)),)))

    def test_the_list_is_visited_once_in_order(self):
        # The first one on the list finds no seat, but the second one does; nobody is asked again.
        net = net_of([("F", "A", "B", 0, 60, "T", (1,)), ("G", "B", "C", 100, 160, "T", (1,))])
        log = (sell("a", "Y", ("F",)), sell("b", "Y", ("G",)), wait("c", "Y", ("F", "G")), wait("d", "Y", ("G",)),
               ("cancel", "b"))
        self.assertEqual(history(net, log)[-1], ("d",))
        self.assertEqual(replay(net, log)[1], (("c", "Y", ("F", "G")),))
        self.assertEqual(history(net, (*log, ("cancel", "a"), ("cancel", "d")))[-2:], ((), ("c",)))

    def test_leaving_sells_nothing(self):
        net = read_net(SMALL)
        log = (sell("a"), wait("b"), wait("c"), ("leave", "b"), ("cancel", "a"), ("cancel", "c"), sell("b"))
        self.assertEqual(history(net, log), (("a",), (), (), (), ("c",), (), ("b",)))

    def test_names_may_come_again(self):
        log = (sell("a"), ("cancel", "a"), sell("a"), sell("b"), wait("c"), ("leave", "c"), wait("c"))
        self.assertEqual(replay(NET, log), ((("a", "Y", ("F",)), ("b", "Y", ("F",))), (("c", "Y", ("F",)),)))

    def test_entries_of_no_form(self):
        for entry in (*VALUES, ("sell",), ("sell", "a"), ("sell", "a", "Y"), ("sell", "a", "Y", ("F",), 1),
                      ("wait", "a", "Y"), ("wait", "a"), ("cancel",), ("cancel", "a", "b"), ("leave",),
                      ("leave", "a", "Y", ("F",)), ("cancel", "a", "Y", ("F",)), ("book", "a", "Y", ("F",)),
                      ("go", "a"), ["sell", "a", "Y", ("F",)], [("cancel", "a")], (1, "a"), (None, "a", "Y", ("F",)),
                      (("sell",), "a", "Y", ("F",)), "sell", "ab", "abcd"):
            self.fails((sell("a"), entry), 1, "entry")

    def test_reasons_of_sales(self):
        for word in ("sell", "wait"):
            log = (sell("a"), sell("b"), wait("c"))
            for name in ("a", "b", "c", None, 1, True, (), ("d",), ["d"], ("a",)):
                self.fails((*log, (word, name, None, None)), 3, "name")
            for cabin in ("X", "y", None, 0, True, (), ("Y",), ["Y"], "F"):
                self.fails((*log, (word, "d", cabin, None)), 3, "class")
            for journey in ("F", (), ("X",), ("G", "F"), ["F"], None, 1, ("F", "I"), (("F",),), (1,), ("F", "F")):
                self.fails((*log, (word, "d", "Y", journey)), 3, "journey")
        self.fails((sell("a"), sell("b"), sell("c")), 2, "seats")
        self.fails((sell("a"), sell("b"), sell("c", "C"), sell("d", "C")), 3, "seats")
        self.fails((sell("a", "Y", ("G",)), sell("b", "Y", ("G",)), sell("c", "Y", ("F", "G"))), 2, "seats")
        self.fails((wait("a"),), 0, "room")
        self.fails((sell("a"), wait("b")), 1, "room")
        self.fails((sell("a", "Y", ("H",)), wait("b", "C", ("H",))), 1, "room")
        self.assertEqual(len(replay(NET, (sell("a", "Y", ("H",)), wait("b", "Y", ("H", "I"))))[1]), 1)

    def test_unknown_names(self):
        log = (sell("a"), sell("b"), wait("c"))
        for name in ("x", "", None, 0, True, (), ("a",), ["a"], ("c",)):
            self.fails((*log, ("cancel", name)), 3, "unknown")
            self.fails((*log, ("leave", name)), 3, "unknown")
        # What waits is not sold, and what is sold does not wait.
        self.fails((*log, ("cancel", "c")), 3, "unknown")
        self.fails((*log, ("leave", "a")), 3, "unknown")
        self.fails((*log, ("cancel", "a"), ("cancel", "a")), 4, "unknown")
        self.fails((*log, ("leave", "c"), ("leave", "c")), 4, "unknown")
        self.fails((*log, ("cancel", "a"), ("leave", "c")), 4, "unknown")

    def test_many_bookings(self):
        net = net_of([("F", "A", "B", 0, 60, "T", (40,)), ("G", "B", "C", 100, 160, "T", (99,))])
        log = tuple(sell(f"s{place}") for place in range(40)) + tuple(wait(f"w{place}") for place in range(19))
        more = (sell("x", "Y", ("G",)),)
        self.assertEqual(len(replay(net, log + more)[0]), 41)
        self.fails(log + more + (sell("y", "Y", ("G",)),), 60, "many", net)
        self.fails(log + more + (wait("y"),), 60, "many", net)
        self.fails(log + more + (sell("y"),), 60, "many", net)
        self.fails(log + more + (wait("y", "Y", ("G",)),), 60, "many", net)
        self.fails(log + more + (sell("y", "Y", ("X",)),), 60, "journey", net)
        self.assertEqual(len(replay(net, log + more + (("leave", "w3"), wait("y")))[1]), 19)
        sold = tuple(sell(f"s{place}", "Y", ("G",)) for place in range(60))
        self.assertEqual(len(replay(net, sold)[0]), 60)
        self.fails((*sold, sell("y", "Y", ("G",))), 60, "many", net)

    def test_the_first_entry_that_cannot_be_done(self):
        self.fails((sell("a"), None, sell("a")), 1, "entry")
        self.fails((("leave", "a"), None), 0, "unknown")

    def test_long_logs(self):
        log = (sell("a"), ("cancel", "a")) * 100
        self.assertEqual(replay(NET, log), ((), ()))
        self.assertEqual(len(history(NET, log)), 200)
        for function in (replay, history):
            self.wrong_argument("log", function, NET, log + (sell("a"),))
            self.wrong_argument("log", function, NET, (None,) * 201)

    def test_no_logs(self):
        for function in (replay, history):
            self.asks_the_net_first(function, None)
            for value in (*VALUES, [], [sell("a")], {}):
                if not isinstance(value, tuple) or len(value) > 200:
                    self.wrong_argument("log", function, NET, value)
                elif value != ():
                    self.refused(LogError, (0, "entry"), function, NET, value)
            self.survives(function, (NET, ()), InterlineError)
            for entry in (sell("a"), wait("a"), ("cancel", "a"), ("leave", "a")):
                self.survives(lambda *parts: function(NET, (parts,)), entry, (LogError, ArgumentError))

    def test_against_the_words(self):
        done, reasons = 0, {}
        for seed in range(150):
            chance = random.Random(seed)
            net = random_net(seed, classes=1 + seed % 2, tails=2, longest=3)
            rows = [tuple(flight[0] for flight in row) for row in all_journeys(net)]
            log = []
            for _ in range(25):
                entry = (chance.choice(("sell", "sell", "wait")), f"p{chance.randrange(9)}", chance.choice(net[2]),
                         chance.choice(rows))
                if chance.random() < 0.45:
                    entry = (chance.choice(("cancel", "cancel", "leave")), f"p{chance.randrange(9)}")
                told = told_replay(net, log + [entry])
                if isinstance(told[0], int):
                    reasons[told[1]] = reasons.get(told[1], 0) + 1
                    self.fails(tuple(log + [entry]), *told, net)
                else:
                    log.append(entry)
            sold, waiting, names = told_replay(net, log)
            self.assertEqual(replay(net, tuple(log)), (sold, waiting))
            self.assertEqual(history(net, tuple(log)), names)
            done += any(entry[0] == "cancel" and names[place] for place, entry in enumerate(log))
        self.assertGreater(done, 10)
        self.assertEqual(set(reasons), {"name", "seats", "room", "unknown"})


if __name__ == "__main__":
    unittest.main()
