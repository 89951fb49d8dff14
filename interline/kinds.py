"""Tests of plain values. They may be asked of any value, and a boolean is not an integer."""


def is_integer(value):
    """Tell whether a value is an integer."""
    return isinstance(value, int) and not isinstance(value, bool)


def is_within(value, low, high):
    """Tell whether a value is an integer from low to high."""
    return is_integer(value) and low <= value <= high


def is_row(value, size):
    """Tell whether a value is a tuple of so many parts."""
    return isinstance(value, tuple) and len(value) == size


def is_short(value, most):
    """Tell whether a value is a tuple of at most so many parts."""
    return isinstance(value, tuple) and len(value) <= most


def is_known(value, table):
    """Tell whether a value is a string that a table or a list of names has."""
    return isinstance(value, str) and value in table


def are_strings(value):
    """Tell whether a value is a tuple of strings."""
    return isinstance(value, tuple) and all([isinstance(part, str) for part in value])


def are_integers(value):
    """Tell whether a value is a tuple of integers."""
    return isinstance(value, tuple) and all([is_integer(part) for part in value])


def are_unlike(names):
    """Tell whether no string stands twice in a list."""
    return len(set(names)) == len(names)


def are_same(one, other):
    """Tell whether two values are equal, with True and 1 as unlike values at any depth."""
    if isinstance(one, tuple) and isinstance(other, tuple):
        return len(one) == len(other) and all([are_same(a, b) for a, b in zip(one, other)])
    return isinstance(one, bool) == isinstance(other, bool) and one == other
