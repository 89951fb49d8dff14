"""Merging: what two planners have changed in one net, put together."""

from interline.checks import check
from interline.errors import NetError
from interline.forms import CLASSES

WORDS = ("stations", "types", "classes", "flights", "tails", "fares")


def changed(net, other):
    """Return for each part its word and the names of the rows that two nets do not have alike."""
    check(net)
    check(other)
    found = []
    for part, word in enumerate(WORDS):
        one, two = rows_of_part(net, part), rows_of_part(other, part)
        names = [name for name in one if two.get(name) != one[name]]
        found.append((word, tuple(names + [name for name in two if name not in one])))
    return tuple(found)


def rows_of_part(net, part):
    """Return the rows of a part by their names, in order; a class is its own name."""
    return {row if part == CLASSES else row[0]: row for row in net[part]}


def merge(base, one, other):
    """Return ("merged", net) with the changes of both, ("wrong", path, reason), or ("disputed", rows)."""
    check(base)
    check(one)
    check(other)
    disputed = []
    parts = []
    for part, word in enumerate(WORDS):
        tables = [rows_of_part(source, part) for source in (base, one, other)]
        disputed.extend([(word, name) for name in all_names(tables) if is_disputed(tables, name)])
        parts.append(merged_part(tables))
    if disputed != []:
        return ("disputed", tuple(disputed))
    net = tuple(parts)
    try:
        check(net)
    except NetError as why:
        return ("wrong", why.path, why.reason)
    return ("merged", net)


def all_names(tables):
    """Return the names that some tables have, those of the first one first, then what each further one adds."""
    names = {}
    for table in tables:
        names.update({name: True for name in table})
    return list(names)


def is_disputed(tables, name):
    """Tell whether a name's rows in base, one and other, or that there are none, are all unlike."""
    base, one, other = [table.get(name) for table in tables]
    return base != one and base != other and one != other


def standing_row(tables, name):
    """Return the row of a name that stands, None if there is none. A row in dispute stands nowhere."""
    base, one, other = [table.get(name) for table in tables]
    if one == other or base == other:
        return one
    return other if one == base else None


def merged_part(tables):
    """Return the rows of a part that stand, in their order."""
    standing = {name: standing_row(tables, name) for name in all_names(tables)}
    order = [name for name in tables[0] if standing[name] is not None]
    for table in tables[1:]:
        last = None
        for name in table:
            if standing[name] is not None:
                if name not in order:
                    order.insert(0 if last is None else order.index(last) + 1, name)
                last = name
    return tuple([standing[name] for name in order])
