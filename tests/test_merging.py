"""Points 140 to 142: what two planners have changed."""

import random
import unittest

from interline.checks import check
from interline.errors import NetError
from interline.merging import changed, merge
from tests.samples import FLIGHTS, NET, STATIONS, TYPES, VALUES, Case, random_net, with_part, with_row, with_value

WORDS = ("stations", "types", "classes", "flights", "tails", "fares")
NOTHING = tuple((word, ()) for word in WORDS)
EMPTY = ((), (), ("Y",), (), (), ())


def table(net, part):
    return {(row if part == 2 else row[0]): row for row in net[part]}


def told_changed(net, other):
    """What point 140 tells, word for word."""
    found = []
    for part, word in enumerate(WORDS):
        one, two = table(net, part), table(other, part)
        names = [name for name in one if name not in two or two[name] != one[name]]
        names += [name for name in two if name not in one]
        found.append((word, tuple(names)))
    return tuple(found)


def told_merge(base, one, other):
    """What points 141 and 142 tell, word for word."""
    disputed, parts = [], []
    for part, word in enumerate(WORDS):
        tables = [table(net, part) for net in (base, one, other)]
        names = list(dict.fromkeys([*tables[0], *tables[1], *tables[2]]))
        stands = {}
        for name in names:
            zero, first, second = (rows.get(name) for rows in tables)
            if first == second:
                stands[name] = first
            elif first == zero:
                stands[name] = second
            elif second == zero:
                stands[name] = first
            else:
                disputed.append((word, name))
        stands = {name: row for name, row in stands.items() if row is not None}
        order = [name for name in tables[0] if name in stands]
        for rows in tables[1:]:
            visited = []
            for name in rows:
                if name in stands and name not in order:
                    ahead = [known for known in visited if known in order]
                    order.insert(order.index(ahead[-1]) + 1 if ahead else 0, name)
                visited.append(name)
        parts.append(tuple(stands[name] for name in order))
    if disputed:
        return ("disputed", tuple(disputed))
    try:
        check(tuple(parts))
    except NetError as error:
        return ("wrong", error.path, error.reason)
    return ("merged", tuple(parts))


def fares_net(*rows):
    """The small net with fares of these names; a number behind a name is the price."""
    return with_part(NET, 5, [(row[:1], "A", "B", "Y", int(row[1:] or 5), 0, 0, 0) for row in rows])


def names_of(answer, part=5):
    assert answer[0] == "merged", answer
    return "".join(row[0] for row in answer[1][part])


class ChangedTest(Case):

    def test_alike(self):
        self.assertEqual(changed(NET, NET), NOTHING)
        self.assertEqual(changed(EMPTY, EMPTY), NOTHING)

    def test_rows_in_another_order(self):
        for part in (0, 1, 3, 4, 5):
            self.assertEqual(changed(NET, with_part(NET, part, NET[part][::-1])), NOTHING)
        bare = ((), (), ("C", "Y"), (), (), ())
        self.assertEqual(changed(bare, with_part(bare, 2, ("Y", "C"))), NOTHING)

    def test_each_part(self):
        for part, place, field, value in ((0, 1, 2, 39), (1, 0, 2, 19), (3, 4, 4, 601), (3, 0, 7, (3, 1)), (5, 2, 4, 91)):
            other = with_value(NET, part, place, field, value)
            told = NOTHING[:part] + ((WORDS[part], (NET[part][place][0],)),) + NOTHING[part + 1:]
            self.assertEqual(changed(NET, other), told)
            self.assertEqual(changed(other, NET), told)
        tails = (("N1", "T", ("F", "G")), ("N2", "U", ("H", "I")), ("N3", "T", ("J",)))
        self.assertEqual(changed(NET, with_part(NET, 4, tails))[4], ("tails", ("N1", "N3")))
        self.assertEqual(changed(with_part(NET, 4, tails[::-1]), NET)[4], ("tails", ("N3", "N1")))

    def test_rows_that_only_one_has(self):
        self.assertEqual(changed(NET, EMPTY), (
            ("stations", ("A", "B", "C", "D")), ("types", ("T", "U")), ("classes", ("C",)), ("flights", ("F", "G", "H", "I", "J")),
            ("tails", ("N1", "N2")), ("fares", ("fl", "gl", "ac", "cc"))))
        self.assertEqual(changed(EMPTY, NET)[2:4], (("classes", ("C",)), ("flights", ("F", "G", "H", "I", "J"))))
        self.assertEqual(changed(fares_net("a", "b", "c7", "d"), fares_net("x", "c", "a", "y"))[5], ("fares", ("b", "c", "d", "x", "y")))

    def test_against_the_words(self):
        for seed in range(60):
            one, other = random_net(seed, tails=2, longest=3), random_net(seed + 1, tails=2, longest=3)
            self.assertEqual(changed(one, other), told_changed(one, other))

    def test_errors(self):
        for value in VALUES:
            self.refused(NetError, ((), "shape"), changed, value, None)
            self.refused(NetError, ((), "shape"), changed, NET, value)
        self.refused(NetError, ((2,), "many"), changed, ((),) * 6, None)
        self.refused(NetError, ((2,), "many"), changed, NET, ((),) * 6)


class MergeTest(Case):

    def test_three_equal_nets(self):
        for net in (NET, EMPTY, random_net(5)):
            self.assertEqual(merge(net, net, net), ("merged", net))

    def test_what_stands(self):
        # The same in one and other; the same in one and base; the same in other and base: changed, removed, new.
        for part, row, wide in ((0, ("A", 50, 30), ("X", 0, 0)), (1, ("T", 7, 20), ("X", 5, 5)),
                                (3, FLIGHTS[0][:6] + (7, (3, 2)), None), (5, ("fl", "A", "B", "Y", 9, 0, 0, 0),
                                                                          ("x", "A", "B", "Y", 9, 0, 0, 0))):
            changes = [with_row(NET, part, 0, row)]
            if wide:
                changes.append(with_part(NET, part, NET[part] + (wide,)))
            if part == 5:
                changes.append(with_part(NET, part, NET[part][1:]))
            for net in changes:
                self.assertEqual(merge(NET, net, net), ("merged", net))
                self.assertEqual(merge(NET, net, NET), ("merged", net))
                self.assertEqual(merge(NET, NET, net), ("merged", net))
                self.assertEqual(merge(net, NET, NET), ("merged", NET))
                self.assertEqual(merge(net, net, NET), ("merged", NET))
                self.assertEqual(merge(net, NET, net), ("merged", NET))

    def test_classes_and_tails(self):
        bare = ((), (), ("C", "Y"), (), (), ())
        new = with_part(bare, 2, ("C", "M", "Y"))
        self.assertEqual(merge(bare, new, bare), ("merged", new))
        self.assertEqual(merge(bare, bare, new), ("merged", new))
        self.assertEqual(merge(bare, with_part(bare, 2, ("Y",)), new), ("merged", with_part(bare, 2, ("M", "Y"))))
        self.assertEqual(merge(bare, with_part(bare, 2, ("C",)), with_part(bare, 2, ("Y",))), ("wrong", (2,), "many"))
        # Another order alone is no change.
        self.assertEqual(merge(bare, with_part(bare, 2, ("Y", "C")), bare), ("merged", bare))
        tails = (("N1", "T", ("F", "G")), ("N2", "U", ("H", "I")), ("N3", "T", ("J",)))
        self.assertEqual(merge(NET, NET, with_part(NET, 4, tails)), ("merged", with_part(NET, 4, tails)))

    def test_changes_of_both(self):
        one = with_value(NET, 0, 0, 1, 70)
        other = with_value(with_value(NET, 0, 2, 1, -60), 5, 1, 4, 45)
        both = with_value(with_value(one, 0, 2, 1, -60), 5, 1, 4, 45)
        self.assertEqual(merge(NET, one, other), ("merged", both))
        self.assertEqual(merge(NET, other, one), ("merged", both))

    def test_disputes(self):
        one, other = fares_net("a6", "b", "x", "z7"), fares_net("y", "a7", "c", "x", "z8")
        self.assertEqual(merge(fares_net("b", "a"), one, other), ("disputed", (("fares", "a"), ("fares", "z"))))
        self.assertEqual(merge(fares_net("b", "a"), other, one), ("disputed", (("fares", "a"), ("fares", "z"))))
        # Changed by one and removed by the other, both ways; new in both, but unlike.
        self.assertEqual(merge(fares_net("a"), fares_net(), fares_net("a7")), ("disputed", (("fares", "a"),)))
        self.assertEqual(merge(fares_net("a"), fares_net("a7"), fares_net()), ("disputed", (("fares", "a"),)))
        self.assertEqual(merge(fares_net(), fares_net("a7"), fares_net("a8")), ("disputed", (("fares", "a"),)))
        self.assertEqual(merge(fares_net("a"), fares_net("a7"), fares_net("a7")), ("merged", fares_net("a7")))

    def test_order_of_disputes(self):
        base = fares_net("d", "c", "b", "a")
        one = fares_net("z6", "a6", "y6", "c6", "b6", "d6")
        other = fares_net("y7", "x7", "z7", "b7", "c7", "a7")
        self.assertEqual(merge(base, one, other)[1], tuple(("fares", name) for name in "dcbazy"))
        self.assertEqual(merge(base, other, one)[1], tuple(("fares", name) for name in "dcbayz"))
        one = with_value(with_value(one, 0, 3, 1, 0), 3, 1, 6, 5)
        other = with_value(with_value(other, 0, 3, 1, 1), 3, 1, 6, 6)
        self.assertEqual(merge(base, one, other)[1][:3], (("stations", "D"), ("flights", "G"), ("fares", "d")))
        # A dispute goes ahead of a net that would be wrong.
        self.assertEqual(merge(base, with_value(one, 3, 1, 3, 201), other)[0], "disputed")

    def test_places_of_new_rows(self):
        base = fares_net("a", "b", "c")
        for one, other, told in (
                (("x", "a", "b", "c"), ("a", "b", "c"), "xabc"), (("a", "x", "b", "c"), ("a", "b", "c"), "axbc"),
                (("a", "b", "c", "x"), ("a", "b", "c"), "abcx"), (("a", "b", "c"), ("y", "z", "a", "b", "c"), "yzabc"),
                (("x", "a", "b", "c"), ("y", "a", "b", "c"), "yxabc"), (("a", "x", "b", "c"), ("a", "y", "b", "c"), "ayxbc"),
                (("a", "b", "c", "x"), ("a", "b", "c", "y"), "abcyx"), (("a", "x", "y", "b", "c"), ("a", "b", "c"), "axybc"),
                (("c", "x", "b", "y", "a"), ("a", "b", "c"), "abycx"), (("c", "x", "b", "a"), ("b", "x", "y", "a", "c"), "abcxy"),
                # x stands behind a row that is removed, so behind the row ahead of that one, or at the front.
                (("a", "b", "x", "c"), ("a", "c"), "axc"), (("a", "x", "b", "c"), ("b", "c"), "xbc"),
                (("a", "b", "c", "x"), (), "x"), ((), ("a", "y", "b", "c"), "y"), (("b", "x"), ("c", "a", "y"), "yx")):
            self.assertEqual(names_of(merge(base, fares_net(*one), fares_net(*other))), told, (one, other))

    def test_wrong_nets(self):
        # The nets of both are right, but what they have changed does not go together.
        two = with_part(EMPTY, 0, STATIONS)
        fares = with_part(two, 5, (("x", "A", "B", "Y", 5, 0, 0, 0),))
        fewer = with_part(two, 0, STATIONS[1:])
        self.assertEqual(merge(two, fares, fewer), ("wrong", (5, 0), "station"))
        self.assertEqual(merge(two, fewer, fares), ("wrong", (5, 0), "station"))
        self.assertEqual(merge(NET, with_value(NET, 3, 1, 3, 180), with_value(NET, 3, 0, 4, 165)), ("wrong", (4, 0), "turn"))
        rows = tuple((f"s{place}", 0, 0) for place in range(12))
        self.assertEqual(merge(EMPTY, with_part(EMPTY, 0, rows[:7]), with_part(EMPTY, 0, rows[5:])),
                         ("merged", with_part(EMPTY, 0, rows)))
        rows += (("s12", 0, 0),)
        self.assertEqual(merge(EMPTY, with_part(EMPTY, 0, rows[:7]), with_part(EMPTY, 0, rows[5:])), ("wrong", (0,), "many"))
        planes = with_part(with_part(EMPTY, 0, STATIONS), 1, TYPES)
        new = with_part(planes, 3, (("k", "A", "B", 0, 5, "T", 5, (3,)),))
        with_k = with_part(new, 4, (("n", "T", ("k",)),))
        late = with_part(with_part(planes, 3, (("m", "A", "B", 0, 5, "T", 5, (3,)),)), 4, (("n", "T", ("m",)),))
        self.assertEqual(merge(planes, with_k, late), ("disputed", (("tails", "n"),)))
        self.assertEqual(merge(with_k, planes, with_part(with_k, 2, ("Y",))), ("merged", planes))

    def mixed(self, chance, net):
        """A net with some changes."""
        parts = [list(rows) for rows in net]
        for _ in range(chance.randint(0, 4)):
            part = chance.choice((0, 1, 5, 5, 3, 3))
            rows = parts[part]
            word = chance.choice(("change", "change", "remove", "add", "swap"))
            place = chance.randrange(len(rows)) if rows else 0
            if word == "change" and rows:
                field, value = {0: 2, 1: 1, 3: 6, 5: 4}[part], chance.randint(1, 3)
                if part == 3:
                    # A later arrival of F and an earlier departure of G do not go together.
                    place = chance.choice((0, 1))
                    field, value = (4, 175) if rows[place][0] == "F" else (3, 190)
                rows[place] = rows[place][:field] + (value,) + rows[place][field + 1:]
            elif word == "remove" and rows:
                del rows[place]
            elif word == "swap" and rows:
                rows.insert(chance.randrange(len(rows)), rows.pop(place))
            elif part == 5:
                name = chance.choice("uvwxyz")
                if name not in [row[0] for row in rows]:
                    rows.insert(place, (name, "A", "B", "Y", chance.randint(1, 3), 0, 0, 0))
        return tuple(tuple(rows) for rows in parts)

    def test_against_the_words(self):
        seen = {}
        for seed in range(3000):
            chance = random.Random(seed)
            one, other = self.mixed(chance, NET), self.mixed(chance, NET)
            nets = [NET, one, other]
            if chance.random() < 0.3:
                chance.shuffle(nets)
            try:
                for net in nets:
                    check(net)
            except NetError:
                continue
            told = told_merge(*nets)
            self.assertEqual(merge(*nets), told)
            seen[told[0]] = seen.get(told[0], 0) + 1
            self.assertEqual(changed(*nets[:2]), told_changed(*nets[:2]))
        self.assertEqual(set(seen), {"merged", "disputed", "wrong"}, seen)
        self.assertGreater(min(seen.values()), 5, seen)

    def test_errors(self):
        wrong = ((),) * 6
        for value in VALUES:
            self.refused(NetError, ((), "shape"), merge, value, wrong, wrong)
            self.refused(NetError, ((), "shape"), merge, NET, value, wrong)
            self.refused(NetError, ((), "shape"), merge, NET, NET, value)
        self.refused(NetError, ((2,), "many"), merge, wrong, None, None)
        self.refused(NetError, ((2,), "many"), merge, NET, wrong, None)
        self.refused(NetError, ((2,), "many"), merge, NET, EMPTY, wrong)


if __name__ == "__main__":
    unittest.main()
