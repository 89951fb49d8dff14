"""Points 106 to 109: planes that stay right whichever items stay away."""

import itertools
import random
import unittest

from interline.balance import accept_balanced, balanced, boarded
from interline.errors import ArgumentError, InterlineError, PaperError
from tests.samples import VALUES, Case, damaged

PLANE = ((10, 5), 0, 10)
ITEMS = (("a", (3, 20)), ("b", (2, -10)), ("c", (1, 5)), ("d", (4, -2)))
WRONG_PLANES = (
    None, 5, "a", True, (), [(10, 5), 0, 10], ((10, 5), 0), ((10, 5), 0, 10, 0), (None, 0, 10), (5, 0, 10), ((10,), 0, 10),
    ((10, 5, 0), 0, 10), ([10, 5], 0, 10), ((0, 5), 0, 10), ((-1, 5), 0, 10), ((1000001, 5), 0, 10),
    ((True, 5), 0, 10), ((10, True), 0, 10), ((10, 1000001), 0, 10), ((10, -1000001), 0, 10), ((10, 5), 11, 10),
    ((10, 5), -1000001, 10), ((10, 5), 0, 1000001), ((10, 5), False, 10), ((10, 5), 0, None), ((10, 5), "0", 10),
)
WRONG_ITEMS = (
    None, 5, "a", True, [], ("a", (1, 2)), (None,), (("a",),), (("a", (1, 2), 3),), ((1, (1, 2)),), (("a", None),),
    (("a", (1,)),), (("a", (-1, 2)),), (("a", (1000001, 2)),), (("a", (1, 1000001)),), (("a", (1, -1000001)),),
    (("a", (True, 2)),), (("a", (1, False)),), (("a", [1, 2]),), (["a", (1, 2)],), (("a", (1, 2)), ("a", (2, 3))),
    [("a", (1, 2))], tuple((str(place), (1, 2)) for place in range(61)),
)
WRONG_NUMBERS = (-1, 61, True, False, None, "1", (), 10 ** 40)


def moment(plane, items, place):
    return sum(weight * (arm - place) for weight, arm in [plane[0]] + [mass for _, mass in items])


def sets_away(items, most):
    """All sets of at most so many items, the fewest first, then by their places."""
    for many in range(min(most, len(items)) + 1):
        yield from itertools.combinations(range(len(items)), many)


def told_balanced(plane, items, most):
    """What point 107 tells, by all sets that stay away."""
    fores, afts = [], []
    for row in sets_away(items, most):
        aboard = [item for place, item in enumerate(items) if place not in row]
        names = tuple(items[place][0] for place in row)
        fores.append((moment(plane, aboard, plane[1]), names))
        afts.append((-moment(plane, aboard, plane[2]), names))
    for side, rows in (("fore", fores), ("aft", afts)):
        least = min(slack for slack, _ in rows)
        if least < 0:
            return ("tipped", side, next(names for slack, names in rows if slack == least))
    return ("kept", (min(fores)[0], min(afts)[0]))


def told_boarded(plane, items, order):
    table = dict(items)
    for number in range(len(order) + 1):
        aboard = [(name, table[name]) for name in order[:number]]
        if moment(plane, aboard, plane[1]) < 0:
            return (number, "fore")
        if moment(plane, aboard, plane[2]) > 0:
            return (number, "aft")
    return None


class BalancedTest(Case):

    def test_slacks(self):
        # About 0: 50 + 60 - 20 + 5 - 8; about 10: -50 + 30 - 40 - 5 - 48.
        self.assertEqual(balanced(PLANE, ITEMS, 0), ("kept", (87, 113)))
        self.assertEqual(balanced(PLANE, ITEMS, 1), ("kept", (27, 65)))
        self.assertEqual(balanced(PLANE, ITEMS, 2), ("kept", (22, 25)))
        self.assertEqual(balanced(PLANE, ITEMS, 60), ("kept", (22, 20)))
        self.assertEqual(balanced(PLANE, (), 60), ("kept", (50, 50)))

    def test_tipped(self):
        self.assertEqual(balanced(((1, 5), 0, 10), ITEMS, 1), ("tipped", "fore", ("a",)))
        self.assertEqual(balanced(((1, 5), 0, 10), ITEMS[:1], 0), ("tipped", "aft", ()))
        self.assertEqual(balanced(((1, -5), 0, 10), ITEMS, 0), ("kept", (32, 78)))
        self.assertEqual(balanced(((1, -5), 0, 10), (), 9), ("tipped", "fore", ()))
        self.assertEqual(balanced(((1, 15), 0, 10), ITEMS[3:], 1), ("tipped", "aft", ("d",)))

    def test_both_sides(self):
        items = (("up", (5, 20)), ("down", (5, -10)))
        self.assertEqual(balanced(((1, 5), 0, 10), items, 1), ("tipped", "fore", ("up",)))
        self.assertIsNone(accept_balanced(((1, 5), 0, 10), items, 1, ("tipped", "aft", ("down",))))

    def test_centres_at_the_ends(self):
        for arm in (-3, 7):
            self.assertEqual(balanced(((9, arm), arm, arm), (), 0), ("kept", (0, 0)))
        self.assertEqual(balanced(((1, 0), 0, 10), (), 0), ("kept", (0, 10)))
        self.assertEqual(balanced(((1, 10), 0, 10), (), 0), ("kept", (10, 0)))
        self.assertEqual(balanced(((1, -1), 0, 10), (), 0), ("tipped", "fore", ()))
        self.assertEqual(balanced(((1, 11), 0, 10), (), 0), ("tipped", "aft", ()))

    def test_equal_moments_and_fewer_items(self):
        # c does not pull; of a, b and d, which pull alike, the first ones stay away.
        plane = ((1, 1), 0, 10)
        items = (("c", (9, 0)), ("a", (1, 4)), ("w", (1, -10)), ("b", (2, 2)), ("d", (4, 1)), ("z", (0, 7)))
        self.assertEqual(balanced(plane, items, 1), ("tipped", "fore", ("a",)))
        self.assertEqual(balanced(plane, items, 2), ("tipped", "fore", ("a", "b")))
        self.assertEqual(balanced(plane, items, 3), ("tipped", "fore", ("a", "b", "d")))
        self.assertEqual(balanced(plane, items, 60), ("tipped", "fore", ("a", "b", "d")))

    def test_against_all_sets(self):
        seen = {"kept": 0, "fore": 0, "aft": 0}
        for seed in range(600):
            chance = random.Random(seed)
            fore = chance.randint(-5, 3)
            plane = ((chance.randint(1, 30), chance.randint(-3, 3)), fore, fore + chance.randint(0, 8))
            items = tuple((f"i{place}", (chance.randint(0, 4), chance.randint(-8, 8))) for place in range(chance.randint(0, 6)))
            most = chance.randint(0, 7)
            told = told_balanced(plane, items, most)
            self.assertEqual(balanced(plane, items, most), told)
            self.assertIsNone(accept_balanced(plane, items, most, told))
            seen[told[1] if told[0] == "tipped" else "kept"] += 1
        self.assertGreater(min(seen.values()), 50, seen)

    def test_sixty_items(self):
        items = tuple((str(place), (1000000, 1000000 - place)) for place in range(60))
        plane = ((1000000, 1000000), -1000000, 1000000)
        self.assertEqual(balanced(plane, items, 60), ("kept", (2000000000000, 0)))

    def test_order_of_the_errors(self):
        for function, rest in ((balanced, (None,)), (accept_balanced, (None, None)), (boarded, (None,))):
            for value in WRONG_PLANES:
                self.wrong_argument("plane", function, value, None, *rest)
            for value in WRONG_ITEMS:
                self.wrong_argument("items", function, PLANE, value, *rest)
        for value in WRONG_NUMBERS:
            self.wrong_argument("most", balanced, PLANE, ITEMS, value)
            self.wrong_argument("most", accept_balanced, PLANE, ITEMS, value, None)
        self.survives(balanced, (PLANE, ITEMS, 1), ArgumentError)
        self.survives(accept_balanced, (PLANE, ITEMS, 1, balanced(PLANE, ITEMS, 1)), InterlineError)


class AcceptBalancedTest(Case):

    TIPPING = ((1, 5), 0, 10)

    def rejects(self, reason, plane, most, *values):
        for value in values:
            self.wrong_paper(reason, accept_balanced, plane, ITEMS, most, value)

    def test_any_names_that_tip(self):
        plane = ((2, 5), 0, 10)
        many = 0
        for count in range(5):
            for names in itertools.permutations("abcd", count):
                aboard = [item for item in ITEMS if item[0] not in names]
                for side, tips in (("fore", moment(plane, aboard, 0) < 0), ("aft", moment(plane, aboard, 10) > 0)):
                    told = ("tipped", side, names)
                    if count > 2:
                        self.rejects("names", plane, 2, told)
                    elif tips:
                        self.assertIsNone(accept_balanced(plane, ITEMS, 2, told))
                        many += 1
                    else:
                        self.rejects("side", plane, 2, told)
        self.assertGreater(many, 3)

    def test_errors(self):
        for plane in (PLANE, self.TIPPING):
            self.rejects("form", plane, 1, None, 5, (), ("kept",), ("kept", (27, 65), 0), ("tipped", "fore"),
                         ("tipped", "left", ()), ("tipped", 5, ()), ("tipped", "fore", None), ("tipped", "fore", ["a"]),
                         ("tipped", "fore", "a"), ("tipped", "fore", ("a",), 0), ["kept", (27, 65)], ("keeps", (27, 65)),
                         (True, (27, 65)), ("kept", "fore", ()), ("tipped", ("a",)), ("tipped", None, ()))
            self.rejects("names", plane, 1, ("tipped", "fore", ("a", "b")), ("tipped", "aft", ("x",)),
                         ("tipped", "fore", ("a", "a")), ("tipped", "fore", (5,)), ("tipped", "fore", (("a",),)),
                         ("tipped", "fore", (None,)))
        self.rejects("names", self.TIPPING, 4, ("tipped", "fore", ("a", "a")))
        self.rejects("names", self.TIPPING, 0, ("tipped", "fore", ("a",)))
        self.rejects("slacks", PLANE, 1, ("kept", None), ("kept", (27, 66)), ("kept", (28, 65)), ("kept", [27, 65]),
                     ("kept", (27,)), ("kept", (27, 65, 0)), ("kept", (87, 113)), ("kept", ()))
        self.rejects("slacks", self.TIPPING, 1, ("kept", (0, 0)), ("kept", None), ("kept", (-8, 20)), ("kept", ("a",)))
        self.rejects("side", PLANE, 1, ("tipped", "fore", ("a",)), ("tipped", "aft", ()))
        self.rejects("side", self.TIPPING, 1, ("tipped", "aft", ("a",)), ("tipped", "fore", ()), ("tipped", "fore", ("b",)))

    def test_centres_at_the_ends_do_not_tip(self):
        for arm, side in ((0, "fore"), (10, "aft")):
            self.wrong_paper("side", accept_balanced, ((1, arm), 0, 10), (), 0, ("tipped", side, ()))
        self.assertIsNone(accept_balanced(((1, -1), 0, 10), (), 0, ("tipped", "fore", ())))
        self.assertIsNone(accept_balanced(((1, 11), 0, 10), (), 0, ("tipped", "aft", ())))

    def test_slacks_are_not_told_by_booleans(self):
        plane = ((1, 0), 0, 1)
        self.assertEqual(balanced(plane, (), 0), ("kept", (0, 1)))
        for slacks in ((False, 1), (0, True), (False, True)):
            self.wrong_paper("slacks", accept_balanced, plane, (), 0, ("kept", slacks))

    def test_any_values(self):
        for plane in (PLANE, self.TIPPING):
            told = balanced(plane, ITEMS, 1)
            for value in [*VALUES, *damaged(told)]:
                self.assertRaises(PaperError, accept_balanced, plane, ITEMS, 1, value)


class BoardedTest(Case):

    def test_boarded(self):
        plane = ((1, 5), 0, 10)
        self.assertEqual(boarded(plane, ITEMS, ("a", "b", "c", "d")), (1, "aft"))
        self.assertEqual(boarded(plane, ITEMS, ("b", "a", "c", "d")), (1, "fore"))
        self.assertEqual(boarded(plane, ITEMS, ("c", "a", "d", "b")), (2, "aft"))
        self.assertIsNone(boarded(plane, ITEMS, ("c", "d", "a", "b")))
        self.assertEqual(boarded(plane, ITEMS, ("c", "d", "b", "a")), (3, "fore"))
        self.assertIsNone(boarded(PLANE, ITEMS, ("a", "b", "c", "d")))
        self.assertIsNone(boarded(PLANE, (), ()))
        self.assertEqual(boarded(((1, -1), 0, 10), ITEMS, ("a", "b", "c", "d")), (0, "fore"))
        self.assertEqual(boarded(((1, 11), 0, 10), (), ()), (0, "aft"))

    def test_against_the_words(self):
        seen = {}
        for seed in range(400):
            chance = random.Random(seed)
            fore = chance.randint(-5, 3)
            plane = ((chance.randint(1, 30), chance.randint(fore, fore + 5)), fore, fore + 5)
            items = tuple((f"i{place}", (chance.randint(0, 4), chance.randint(-8, 8))) for place in range(chance.randint(0, 6)))
            order = [name for name, _ in items]
            chance.shuffle(order)
            told = told_boarded(plane, items, tuple(order))
            self.assertEqual(boarded(plane, items, tuple(order)), told)
            seen[told and told[1]] = seen.get(told and told[1], 0) + 1
        self.assertGreater(min(seen.values()), 30)
        self.assertEqual(len(seen), 3)

    def test_errors(self):
        for value in (None, 5, "abcd", (), ("a", "b", "c"), ("a", "b", "c", "d", "a"), ("a", "b", "c", "c"),
                      ("a", "b", "c", "x"), ["a", "b", "c", "d"], ("a", "b", "c", 5), ("a", "b", "c", None), True,
                      (("a",), "b", "c", "d"), ("a", "b", "c", True)):
            self.wrong_argument("order", boarded, PLANE, ITEMS, value)
        self.survives(boarded, (PLANE, ITEMS, ("a", "b", "c", "d")), ArgumentError)


if __name__ == "__main__":
    unittest.main()
