"""Points 82 and 83: who gives up seats."""

import itertools
import random
import time
import unittest

from interline.errors import ArgumentError, InterlineError
from interline.volunteers import accept_bid_table, bid_table, volunteers
from tests.samples import VALUES, Case, damaged


def told_least(bids, need):
    """The least sum over all sets of bids, None if all together give up too few."""
    sums = [sum(bid[2] for bid in row) for many in range(len(bids) + 1) for row in itertools.combinations(bids, many)
            if sum(bid[1] for bid in row) >= need]
    return min(sums, default=None)


def random_bids(chance, most):
    return tuple((f"b {place}", chance.choice((1, 1, 2, 3, 9)), chance.choice((0, 10, 10, 20, 35, 1000000)))
                 for place in range(chance.randint(0, most)))


def check_answer(case, bids, need):
    """The names are of bids in their order that give up enough seats for the sum that is told."""
    told = volunteers(bids, need)
    least = told_least(bids, need)
    if least is None:
        case.assertIsNone(told)
        return
    total, names = told
    case.assertEqual(total, least)
    chosen = [bid for bid in bids if bid[0] in names]
    case.assertEqual(names, tuple(bid[0] for bid in chosen))
    case.assertEqual(sum(bid[2] for bid in chosen), total)
    case.assertGreaterEqual(sum(bid[1] for bid in chosen), need)


class VolunteersTest(Case):

    def test_example(self):
        self.assertEqual(volunteers((("a", 1, 90), ("b", 2, 120), ("c", 1, 50)), 2), (120, ("b",)))

    def test_sums(self):
        bids = (("a", 1, 90), ("b", 2, 120), ("c", 1, 50))
        self.assertEqual(volunteers(bids, 1), (50, ("c",)))
        self.assertEqual(volunteers(bids, 3), (170, ("b", "c")))
        self.assertEqual(volunteers(bids, 4), (260, ("a", "b", "c")))
        self.assertIsNone(volunteers(bids, 5))
        self.assertEqual(volunteers(bids, 0), (0, ()))
        self.assertEqual(volunteers((), 0), (0, ()))
        self.assertIsNone(volunteers((), 1))

    def test_equal_sums(self):
        for bids in ((("a", 1, 50), ("b", 1, 50)), (("a", 1, 30), ("b", 2, 60), ("c", 1, 30)), (("", 9, 0), (" ", 9, 0))):
            for need in range(4):
                check_answer(self, bids, need)
        self.assertIn(volunteers((("a", 1, 50), ("b", 1, 50)), 1), ((50, ("a",)), (50, ("b",))))

    def test_bids_of_many_seats(self):
        self.assertEqual(volunteers((("a", 9, 100), ("b", 1, 99), ("c", 1, 2)), 2), (100, ("a",)))
        self.assertEqual(volunteers((("a", 1, 99), ("b", 9, 100)), 1), (99, ("a",)))

    def test_against_all_sets(self):
        for seed in range(300):
            chance = random.Random(seed)
            bids = random_bids(chance, 7)
            for need in (0, 1, 2, 3, 5, chance.randint(0, 40), 60):
                check_answer(self, bids, need)

    def test_many_bids(self):
        bids = tuple((str(place), 1 + place // 3, 1000 + place * place) for place in range(24))
        begin = time.process_time()
        total, names = volunteers(bids, 60)
        self.assertGreaterEqual(sum(bid[1] for bid in bids if bid[0] in names), 60)
        self.assertEqual(sum(bid[2] for bid in bids if bid[0] in names), total)
        self.assertIsNone(accept_bid_table(bids, 60, bid_table(bids, 60)))
        self.assertLess(time.process_time() - begin, 5)
        for function, rest in ((volunteers, ()), (bid_table, ()), (accept_bid_table, (None,))):
            self.wrong_argument("bids", function, bids + (("x", 1, 1),), 61, *rest)
            self.wrong_argument("need", function, bids, 61, *rest)

    def test_wrong_bids(self):
        wrong = (None, 5, "a", True, [], [("a", 1, 1)], ("a", 1, 1), (None,), (("a", 1),), (("a", 1, 1, 1),),
                 ((1, 1, 1),), ((None, 1, 1),), (("a", 0, 1),), (("a", 10, 1),), (("a", -1, 1),), (("a", True, 1),),
                 (("a", "1", 1),), (("a", 1, -1),), (("a", 1, 1000001),), (("a", 1, True),), (("a", 1, None),),
                 (("a", 1, 1), ("a", 2, 2)), (["a", 1, 1],), (("a", 1, 1), None), ((("a",), 1, 1),))
        for function, rest in ((volunteers, ()), (bid_table, ()), (accept_bid_table, (None,))):
            for value in wrong:
                self.wrong_argument("bids", function, value, None, *rest)
            for value in (-1, 61, None, True, False, "1", (), 1.0, 10 ** 40):
                self.wrong_argument("need", function, (("a", 1, 1),), value, *rest)
            for value in VALUES:
                if value != ():
                    self.wrong_argument("bids", function, value, -1, *rest)
                self.survives(function, ((("a", 1, 1),), 1, *rest), InterlineError)
        for bid in (("a", 1, 0), ("", 9, 1000000), ("a b", 5, 5)):
            self.assertEqual(volunteers((bid,), 1), (bid[2], (bid[0],)))


class BidTableTest(Case):

    def test_table(self):
        bids = (("a", 1, 90), ("b", 2, 120), ("c", 1, 50))
        self.assertEqual(bid_table(bids, 3), (
            (0, 50, 120, 170), (0, 50, 120, 170), (0, 50, None, None), (0, None, None, None)))
        self.assertEqual(bid_table(bids, 4)[0], (0, 50, 120, 170, 260))
        self.assertEqual(bid_table((), 0), ((0,),))
        self.assertEqual(bid_table((), 2), ((0, None, None),))
        self.assertEqual(bid_table((("a", 1, 0),), 0), ((0,), (0,)))

    def test_against_all_sets(self):
        for seed in range(80):
            chance = random.Random(seed)
            bids = random_bids(chance, 6)
            need = chance.randint(0, 12)
            told = tuple(tuple(told_least(bids[place:], number) for number in range(need + 1))
                         for place in range(len(bids) + 1))
            self.assertEqual(bid_table(bids, need), told)
            self.assertIsNone(accept_bid_table(bids, need, told))
            for value in damaged(told):
                reason = "entry" if self.has_form(value, len(bids) + 1, need + 1) else "form"
                self.wrong_paper(reason, accept_bid_table, bids, need, value)

    def has_form(self, value, rows, size):
        return (type(value) is tuple and len(value) == rows
                and all(type(row) is tuple and len(row) == size for row in value)
                and all(entry is None or type(entry) is int for row in value for entry in row))

    def test_wrong_tables(self):
        bids = (("a", 1, 1), ("b", 1, 0))
        told = ((0, 0, 1), (0, 0, None), (0, None, None))
        self.assertIsNone(accept_bid_table(bids, 2, told))
        for value in (None, 5, (), told[:2], told + told[2:], list(told), (*told[:2], [0, None, None]), (*told[:2], None),
                      ((0, 0, True), *told[1:]), ((0, False, 1), *told[1:]), ((0, 0), *told[1:]), ((0, 0, 1, 1), *told[1:]),
                      ((0, 0, "1"), *told[1:]), ((0, 0, (1,)), *told[1:])):
            self.wrong_paper("form", accept_bid_table, bids, 2, value)
        for value in (((0, 0, 2), *told[1:]), ((0, 0, None), *told[1:]), ((0, 1, 1), *told[1:]), ((None, 0, 1), *told[1:]),
                      (told[0], (0, 0, 0), told[2]), (*told[:2], (0, 0, None)), (*told[:2], (0, None, 0)),
                      (*told[:2], (None, None, None)), ((0, 0, 0), (0, 0, 0), (0, 0, 0)), ((1, 1, 2), (1, 1, None), (1, None,
                      None)), (told[1], told[1], told[2])):
            self.wrong_paper("entry", accept_bid_table, bids, 2, value)
        self.survives_papers(accept_bid_table, (bids, 2), [told])

    def test_errors_are_argument_errors_first(self):
        self.refused(ArgumentError, ("bids",), accept_bid_table, None, None, None)
        self.refused(ArgumentError, ("need",), accept_bid_table, (), None, None)


if __name__ == "__main__":
    unittest.main()
