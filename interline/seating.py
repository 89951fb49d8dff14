"""Seating: which groups can sit together in rows of seats."""

from interline.asking import require
from interline.errors import PaperError
from interline.kinds import are_integers, are_unlike, is_row, is_short, is_within
from interline.limits import MAX_GROUPS, MAX_SEATED
from interline.subsets import members

MAX_ROWS = 99


def seat_table(groups, rows, seats):
    """Return for each set of groups the least pair (full, last) of rows ahead and seats taken in the present one."""
    require_groups(groups, rows, seats)
    return tuple(find_table(groups, seats))


def require_groups(groups, rows, seats):
    """Raise ArgumentError for the first wrong argument."""
    require(is_within(rows, 0, MAX_ROWS), "rows")
    require(is_within(seats, 1, MAX_SEATED), "seats")
    require(is_short(groups, MAX_GROUPS) and all([is_group(part, seats) for part in groups]), "groups")
    require(are_unlike([group[0] for group in groups]), "groups")


def is_group(value, seats):
    """Tell whether a value is a group that fits into a row."""
    return is_row(value, 2) and isinstance(value[0], str) and is_within(value[1], 1, seats)


def find_table(groups, seats):
    """Return the entries of all sets of groups, from 0 on."""
    table = []
    for number in range(1 << len(groups)):
        table.append(entry_for(groups, seats, table, number))
    return table


def entry_for(groups, seats, table, number):
    """Return the entry of a set of groups, by those of lesser sets."""
    return min([behind(table[number - (1 << place)], groups[place][1], seats) for place in members(number)],
               default=(0, 0))


def behind(entry, size, seats):
    """Return the pair that comes about when a group is put behind other ones."""
    full, last = entry
    if last + size <= seats:
        return (full, last + size)
    return (full + 1, size)


def rows_used(entry):
    """Return how many rows an entry uses."""
    full, last = entry
    return full + 1 if last > 0 else full


def seated(groups, rows, seats):
    """Return the greatest number of groups that can sit together, and the names in each row that is used."""
    require_groups(groups, rows, seats)
    table = find_table(groups, seats)
    fitting = [(len(members(number)), number) for number, entry in enumerate(table) if rows_used(entry) <= rows]
    many, best = max(fitting)
    return (many, seating_of(groups, seats, table, best))


def seating_of(groups, seats, table, number):
    """Return the names in each row for a set of groups."""
    plan = []
    last = 0
    for place in order_of(groups, seats, table, number):
        name, size = groups[place]
        if plan == [] or last + size > seats:
            plan.append([name])
            last = size
        else:
            plan[-1].append(name)
            last = last + size
    return tuple([tuple(row) for row in plan])


def order_of(groups, seats, table, number):
    """Return an order of the groups of a set in which they come to its entry."""
    order = []
    while number > 0:
        for place in members(number):
            rest = number - (1 << place)
            if behind(table[rest], groups[place][1], seats) == table[number]:
                order.append(place)
                number = rest
                break
    return order[::-1]


def accept_seat_table(groups, rows, seats, table):
    """Return None if a value is the table; otherwise raise PaperError."""
    require_groups(groups, rows, seats)
    if not is_row(table, 1 << len(groups)) or not all([is_row(entry, 2) and are_integers(entry) for entry in table]):
        raise PaperError("form")
    if any([entry != entry_for(groups, seats, table, number) for number, entry in enumerate(table)]):
        raise PaperError("entry")
