"""Balance: whether a loaded plane stays right whichever items stay away, or while it is loaded."""

from interline.asking import require
from interline.errors import PaperError
from interline.kinds import are_same, are_strings, are_unlike, is_row, is_short, is_within
from interline.limits import MAX_COIN, MAX_ITEMS

SIDES = ("fore", "aft")


def balanced(plane, items, most):
    """Return ("kept", slacks) if the plane stays right without any so many items, or ("tipped", side, names)."""
    require_load(plane, items)
    require(is_within(most, 0, MAX_ITEMS), "most")
    slacks = []
    for side in SIDES:
        away = pulling_most(items, most, pulls_of(plane, items, side))
        slacks.append(slack_without(plane, items, side, away))
        if slacks[-1] < 0:
            return ("tipped", side, away)
    return ("kept", tuple(slacks))


def require_load(plane, items):
    """Raise ArgumentError unless these are a plane and items."""
    require(is_plane(plane), "plane")
    require(is_short(items, MAX_ITEMS) and all([is_item(part) for part in items]), "items")
    require(are_unlike([item[0] for item in items]), "items")


def is_plane(value):
    """Tell whether a value is a plane."""
    if not is_row(value, 3) or not is_mass(value[0]) or value[0][0] == 0:
        return False
    return is_arm(value[1]) and is_arm(value[2]) and value[1] <= value[2]


def is_item(value):
    """Tell whether a value is an item."""
    return is_row(value, 2) and isinstance(value[0], str) and is_mass(value[1])


def is_mass(value):
    """Tell whether a value is a mass."""
    return is_row(value, 2) and is_within(value[0], 0, MAX_COIN) and is_arm(value[1])


def is_arm(value):
    """Tell whether a value is a place along a plane."""
    return is_within(value, -MAX_COIN, MAX_COIN)


def pull_of(plane, mass, side):
    """Return how much a mass keeps a plane from tipping to a side: its moment about the side's place, away from it."""
    weight, arm = mass
    if side == "fore":
        return weight * (arm - plane[1])
    return weight * (plane[2] - arm)


def pulls_of(plane, items, side):
    """Return how much each item keeps a plane from tipping to a side."""
    return [pull_of(plane, mass, side) for _, mass in items]


def pulling_most(items, most, pulls):
    """Return the names of the items, in their order, that pull most, at most so many, each of which pulls at all."""
    order = sorted([(-pull, place) for place, pull in enumerate(pulls) if pull > 0])
    away = [place for _, place in order[:most]]
    return tuple([name for place, (name, _) in enumerate(items) if place in away])


def slack_without(plane, items, side, away):
    """Return how far a plane is from tipping to a side without some items; it is below 0 if the plane tips."""
    aboard = [mass for name, mass in items if name not in away]
    return sum([pull_of(plane, mass, side) for mass in (plane[0], *aboard)])


def accept_balanced(plane, items, most, told):
    """Return None if a value is a right answer, with any names that tip the plane; otherwise raise PaperError."""
    answer = balanced(plane, items, most)
    if is_row(told, 2) and told[0] == "kept":
        if not are_same(told, answer):
            raise PaperError("slacks")
    elif is_row(told, 3) and told[0] == "tipped" and told[1] in SIDES and isinstance(told[2], tuple):
        if not are_away(items, most, told[2]):
            raise PaperError("names")
        if slack_without(plane, items, told[1], told[2]) >= 0:
            raise PaperError("side")
    else:
        raise PaperError("form")


def are_away(items, most, names):
    """Tell whether the parts of a tuple are unlike names of at most so many items."""
    known = [name for name, _ in items]
    return is_short(names, most) and are_strings(names) and are_unlike(names) and all([name in known for name in names])


def boarded(plane, items, order):
    """Return the first number of items, taken aboard in an order, with which the plane tips, and the side; or None."""
    require_load(plane, items)
    require(is_order(items, order), "order")
    for number in range(len(order) + 1):
        for side in SIDES:
            if slack_without(plane, items, side, order[number:]) < 0:
                return (number, side)
    return None


def is_order(items, value):
    """Tell whether a value is a tuple of the names of all items, each once."""
    return are_strings(value) and sorted(value) == sorted([name for name, _ in items])
