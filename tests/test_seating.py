"""Points 113 to 116: groups that sit together."""

import itertools
import random
import unittest

from interline.errors import ArgumentError, InterlineError, PaperError
from interline.seating import accept_seat_table, seat_table, seated
from tests.samples import VALUES, Case, damaged

GROUPS = (("a", 3), ("b", 2), ("c", 3))
WRONG_ROWS = (-1, 100, True, False, None, "1", (), 10 ** 40, [1])
WRONG_SEATS = (0, 13, -1, True, False, None, "1", (), 10 ** 40)
WRONG_GROUPS = (
    None, 5, "a", True, [], ("a", 3), (None,), (("a",),), (("a", 3, 0),), ((1, 3),), (("a", 0),), (("a", 6),), (("a", True),),
    (("a", "3"),), (("a", None),), (("a", 3), ("a", 2)), [("a", 3)], (["a", 3],), ((("a",), 3),), (("a", -1),),
    tuple((str(place), 1) for place in range(11)),
)


def filled(sizes, seats):
    """What becomes of groups that are put into rows in this order."""
    full = last = 0
    for size in sizes:
        if last + size <= seats:
            last += size
        else:
            full, last = full + 1, size
    return (full, last)


def told_table(groups, seats):
    """The entry of each set, by all orders of its groups."""
    found = []
    for number in range(2 ** len(groups)):
        sizes = [size for place, (_, size) in enumerate(groups) if number // 2 ** place % 2]
        found.append(min(filled(order, seats) for order in itertools.permutations(sizes)))
    return tuple(found)


def can_sit(sizes, rows, seats):
    """Whether groups can have their seats in so many rows, by trying all ways to give each group a row."""
    return any(all(sum(size for size, at in zip(sizes, given) if at == row) <= seats for row in range(rows))
               for given in itertools.product(range(rows), repeat=len(sizes)))


class SeatedTest(Case):

    def fits(self, groups, rows, seats, told):
        many, plan = told
        sizes = dict(groups)
        names = [name for row in plan for name in row]
        self.assertEqual(len(names), many)
        self.assertEqual(len(set(names)), many)
        self.assertLessEqual(len(plan), rows)
        self.assertTrue(all(isinstance(row, tuple) and row for row in plan))
        self.assertTrue(all(sum(sizes[name] for name in row) <= seats for row in plan))

    def test_examples(self):
        self.assertEqual(seated(GROUPS, 2, 5)[0], 3)
        self.assertEqual(seated((("a", 3), ("b", 3), ("c", 3)), 2, 5)[0], 2)

    def test_no_groups_and_no_rows(self):
        self.assertEqual(seat_table((), 3, 5), ((0, 0),))
        self.assertEqual(seated((), 3, 5), (0, ()))
        self.assertEqual(seated((), 0, 5), (0, ()))
        self.assertEqual(seated(GROUPS, 0, 5), (0, ()))
        self.assertIsNone(accept_seat_table((), 0, 5, ((0, 0),)))

    def test_tables(self):
        self.assertEqual(seat_table(GROUPS, 2, 5), ((0, 0), (0, 3), (0, 2), (0, 5), (0, 3), (1, 3), (0, 5), (1, 3)))
        self.assertEqual(seat_table(GROUPS, 0, 3), ((0, 0), (0, 3), (0, 2), (1, 2), (0, 3), (1, 3), (1, 2), (2, 2)))

    def test_against_all_orders(self):
        for seed in range(150):
            chance = random.Random(seed)
            seats, rows = chance.randint(1, 6), chance.randint(0, 3)
            groups = tuple((f"g{place}", chance.randint(1, seats)) for place in range(chance.randint(0, 5)))
            table = seat_table(groups, rows, seats)
            self.assertEqual(table, told_table(groups, seats))
            self.assertIsNone(accept_seat_table(groups, rows, seats, table))
            told = seated(groups, rows, seats)
            self.fits(groups, rows, seats, told)
            sizes = [size for _, size in groups]
            self.assertEqual(told[0], max(many for many in range(len(sizes) + 1)
                                          if any(can_sit(row, rows, seats) for row in itertools.combinations(sizes, many))))

    def test_ten_groups(self):
        for seed in range(5):
            chance = random.Random(seed)
            groups = tuple((str(place), chance.randint(1, 12)) for place in range(10))
            for rows in (0, 1, 3, 99):
                told = seated(groups, rows, 12)
                self.fits(groups, rows, 12, told)
                table = seat_table(groups, rows, 12)
                self.assertEqual(len(table), 1024)
                self.assertIsNone(accept_seat_table(groups, rows, 12, table))
            self.assertEqual(told[0], 10)

    def test_order_of_the_errors(self):
        for function, rest in ((seat_table, ()), (seated, ()), (accept_seat_table, (None,))):
            for value in WRONG_ROWS:
                self.wrong_argument("rows", function, None, value, None, *rest)
            for value in WRONG_SEATS:
                self.wrong_argument("seats", function, None, 2, value, *rest)
            for value in WRONG_GROUPS:
                self.wrong_argument("groups", function, value, 2, 5, *rest)
        self.survives(seat_table, (GROUPS, 2, 5), ArgumentError)
        self.survives(seated, (GROUPS, 2, 5), ArgumentError)
        self.survives(accept_seat_table, (GROUPS, 2, 5, seat_table(GROUPS, 2, 5)), InterlineError)
        self.assertEqual(seated((("a", 12),), 99, 12), (1, (("a",),)))
        self.assertEqual(seated((("a", 1),), 1, 1), (1, (("a",),)))


class AcceptSeatTableTest(Case):

    TABLE = seat_table(GROUPS, 2, 5)

    def rejects(self, reason, *values):
        for value in values:
            self.wrong_paper(reason, accept_seat_table, GROUPS, 2, 5, value)

    def test_other_forms(self):
        table = self.TABLE
        self.rejects("form", None, 5, (), "abcdefgh", table[:-1], table + table[-1:], list(table), (table[:-1] + (None,)),
                     table[:-1] + ((1,),), table[:-1] + ((1, 3, 0),), table[:-1] + ([1, 3],), table[:-1] + ((1, None),),
                     table[:-1] + ((True, 3),), ((False, 0),) + table[1:], ((5, 5),) + table[1:-1] + (None,))

    def test_each_entry_changed(self):
        for place, (full, last) in enumerate(self.TABLE):
            for entry in ((full + 1, last), (full - 1, last), (full, last + 1), (full, last - 1), (0, 10 ** 40)):
                self.rejects("entry", self.TABLE[:place] + (entry,) + self.TABLE[place + 1:])

    def test_any_values(self):
        for value in [*VALUES, *damaged(self.TABLE)]:
            self.assertRaises(PaperError, accept_seat_table, GROUPS, 2, 5, value)


if __name__ == "__main__":
    unittest.main()
