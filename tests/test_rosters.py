"""Points 131 to 133: rosters of duties."""

import itertools
import random
import unittest

from interline.errors import InterlineError, PaperError
from interline.rosters import accept_rosters, least_rosters, turns
from tests.samples import NET, VALUES, Case, damaged, net_of, random_net
from tests.test_crews import SITS, WRONG_SITS, some_duties

DUTIES = (("F", "G", "J"), ("H", "I"))
WRONG_DUTIES = (None, 5, (), [], (("F",),), (("F", "G", "J"), ("I", "H")), DUTIES + ((),), "FGHIJ", DUTIES + (("F",),),
                (["F", "G", "J"], ("H", "I")), True, (("F", "G", "J"), ("H", "I", "X")), [("F", "G", "J"), ("H", "I")])
WRONG_RESTS = (-1, 20161, True, False, None, "5", (), 10 ** 40)

# Every flight is a duty of its own. a leads to c, d and e; b to c; f comes too late for all.
FLIGHTS = [("a", "A", "B", 0, 50), ("b", "C", "B", 0, 90), ("c", "B", "D", 150, 170), ("d", "B", "C", 100, 140),
           ("e", "B", "A", 60, 99), ("f", "A", "B", 99, 200)]
LINE = net_of(FLIGHTS)
SINGLES = tuple((row[0],) for row in FLIGHTS)
ARGUMENTS = (LINE, (0, 0), SINGLES, 50)


def told_turns(net, duties, rest):
    """What point 131 tells, word for word."""
    flights = {row[0]: row for row in net[3]}
    found = []
    for one, two in itertools.permutations(range(len(duties)), 2):
        last, first = flights[duties[one][-1]], flights[duties[two][0]]
        if last[2] == first[1] and first[3] - last[4] >= rest:
            found.append((one, two))
    return tuple(sorted(found))


def fewest_rosters(many, pairs):
    """The least number of rosters, by trying all sets of turns of which no two share a side."""
    for number in range(min(many, len(pairs)), 0, -1):
        for row in itertools.combinations(pairs, number):
            if len({one for one, _ in row}) == number == len({two for _, two in row}):
                return many - number
    return many


class RostersTest(Case):

    def test_turns_at_the_rest_and_one_less(self):
        self.assertEqual(turns(*ARGUMENTS), ((0, 2), (0, 3), (1, 2)))
        self.assertEqual(turns(*ARGUMENTS[:3], 60), ((0, 2), (1, 2)))
        self.assertEqual(turns(*ARGUMENTS[:3], 61), ((0, 2),))
        self.assertEqual(turns(*ARGUMENTS[:3], 10), ((0, 2), (0, 3), (0, 4), (1, 2), (1, 3)))
        self.assertEqual(turns(*ARGUMENTS[:3], 11), ((0, 2), (0, 3), (1, 2)))
        self.assertEqual(turns(*ARGUMENTS[:3], 0), ((0, 2), (0, 3), (0, 4), (1, 2), (1, 3), (4, 5)))
        self.assertEqual(turns(*ARGUMENTS[:3], 20160), ())
        self.assertEqual(turns(NET, SITS, DUTIES, 0), ())
        self.assertEqual(turns(NET, SITS, (("F", "G"), ("H", "I"), ("J",)), 100), ((0, 2), (1, 2)))
        self.assertEqual(turns(NET, SITS, (("J",), ("H", "I"), ("F", "G")), 101), ((1, 0),))

    def test_rosters(self):
        rosters, cover = least_rosters(*ARGUMENTS)
        self.assertEqual(sorted(rosters), [(0, 3), (1, 2), (4,), (5,)])
        self.assertEqual(len(cover), 2)
        self.assertEqual(len(least_rosters(*ARGUMENTS[:3], 0)[0]), 3)
        self.assertEqual(least_rosters(*ARGUMENTS[:3], 20160), (tuple((place,) for place in range(6)), ()))
        self.assertEqual(least_rosters(((), (), ("Y",), (), (), ()), SITS, (), 5), ((), ()))

    def test_against_all_rosters(self):
        seen = set()
        for seed in range(200):
            chance = random.Random(seed)
            net = random_net(seed, tails=4, longest=4, stations=3, span=100)
            sits = chance.choice(((0, 0), (0, 60), (20, 120)))
            duties = some_duties(chance, net, sits)
            rest = chance.choice((0, 20, 60, 200))
            pairs = turns(net, sits, duties, rest)
            self.assertEqual(pairs, told_turns(net, duties, rest))
            if len(pairs) > 15:
                continue
            told = least_rosters(net, sits, duties, rest)
            rosters, cover = told
            self.assertEqual(sorted(place for row in rosters for place in row), list(range(len(duties))))
            self.assertTrue(all(pair in pairs for row in rosters for pair in zip(row, row[1:])))
            self.assertEqual(len(set(cover)), len(cover))
            self.assertTrue(all(("out", one) in cover or ("in", two) in cover for one, two in pairs))
            self.assertEqual(len(rosters), len(duties) - len(cover))
            self.assertEqual(len(rosters), fewest_rosters(len(duties), pairs))
            self.assertIsNone(accept_rosters(net, sits, duties, rest, told))
            seen.add(len(cover))
        self.assertGreater(len(seen), 4)

    def test_order_of_the_errors(self):
        for function, rest in ((turns, ()), (least_rosters, ()), (accept_rosters, (None,))):
            self.asks_the_net_first(function, None, None, None, *rest)
            for value in WRONG_SITS:
                self.wrong_argument("sits", function, NET, value, None, None, *rest)
            for value in WRONG_DUTIES:
                self.wrong_argument("duties", function, NET, SITS, value, None, *rest)
            for value in WRONG_RESTS:
                self.wrong_argument("rest", function, NET, SITS, DUTIES, value, *rest)
        self.survives(turns, ARGUMENTS, InterlineError)
        self.survives(least_rosters, ARGUMENTS, InterlineError)
        self.survives(accept_rosters, (*ARGUMENTS, least_rosters(*ARGUMENTS)), InterlineError)


class AcceptRostersTest(Case):

    ROSTERS = ((0, 3), (1, 2), (4,), (5,))
    COVER = (("out", 0), ("in", 2))

    def rejects(self, reason, *values):
        for value in values:
            self.wrong_paper(reason, accept_rosters, *ARGUMENTS, value)

    def test_right_ones(self):
        for rosters in itertools.permutations(self.ROSTERS):
            self.assertIsNone(accept_rosters(*ARGUMENTS, (rosters, self.COVER)))
            self.assertIsNone(accept_rosters(*ARGUMENTS, (rosters, self.COVER[::-1])))
        self.assertIsNone(accept_rosters(*ARGUMENTS[:3], 61, (((0, 2), (1,), (3,), (4,), (5,)), (("in", 2),))))
        self.assertIsNone(accept_rosters(*ARGUMENTS[:3], 61, (((0, 2), (1,), (3,), (4,), (5,)), (("out", 0),))))

    def test_errors(self):
        rosters, cover = self.ROSTERS, self.COVER
        self.rejects("form", None, 5, (), (rosters,), (rosters, cover, 0), [rosters, cover], (rosters, list(cover)),
                     (rosters, None), (None, None), (rosters, "in"), "ab")
        self.rejects("rosters", (None, cover), ((), cover), (list(rosters), cover), (rosters[:3], cover),
                     (rosters + ((),), cover), (rosters + ((0,),), cover), (((3, 0), *rosters[1:]), cover),
                     (((0, 3), (1, 2), (4,), (6,)), cover), (((0, 3), (1, 2), (4,), (-1,)), cover),
                     (((0, 3), (True, 2), (4,), (5,)), cover), (((False, 3), (1, 2), (4,), (5,)), cover),
                     (([0, 3], (1, 2), (4,), (5,)), cover), ((0, 3, 1, 2, 4, 5), cover), (((0, 3), (1, 2), (4, 5)), cover),
                     (((0, 3), (1, 2), (4,), ("5",)), cover), (((0, 3), (1, 2), (4,), (None,)), cover),
                     (((0, 2), (1, 3), (4,), (5,)), cover), ((("a", "d"), (1, 2), (4,), (5,)), cover))
        self.rejects("cover", (rosters, ()), (rosters, cover[:1]), (rosters, cover + cover[:1]), (rosters, (None, *cover)),
                     (rosters, (("in", 6), *cover)), (rosters, (("in", -1), *cover)), (rosters, (("on", 1), *cover)),
                     (rosters, (("in",), *cover)), (rosters, (("in", 1, 1), *cover)), (rosters, (["in", 2], cover[0])),
                     (rosters, (("out", False), ("in", 2))), (rosters, (("in", "c"), *cover)), (rosters, ("in", 2)),
                     (rosters, ((2, "in"), *cover)), (rosters, (("in", None), *cover)), (rosters, (("in", 3), ("out", 1))),
                     (rosters, (5, 5)))
        self.rejects("number", (rosters, (*cover, ("out", 5))), (((0,), (3,), (1, 2), (4,), (5,)), cover),
                     (tuple((place,) for place in range(6)), cover))
        # The first of two faults is told.
        self.rejects("form", (None, [None]))
        self.rejects("rosters", (None, (None,)))
        self.rejects("cover", (tuple((place,) for place in range(6)), cover[:1]))

    def test_any_values(self):
        told = least_rosters(*ARGUMENTS)
        for value in [*VALUES, *damaged(told)]:
            self.assertRaises(PaperError, accept_rosters, *ARGUMENTS, value)


if __name__ == "__main__":
    unittest.main()
