"""Rows of places: what may be picked together, the fewest first."""


def rows_of(keys, most):
    """Return all rows of at most so many ascending places whose keys are unlike.

    The rows with the fewest places stand first, equally long ones in their order as tuples.
    """
    last = [()]
    found = [()]
    for _ in range(most):
        last = [(*row, place) for row in last for place in range(len(keys)) if goes_on(keys, row, place)]
        found.extend(last)
    return found


def goes_on(keys, row, place):
    """Tell whether a place may stand behind a row of places."""
    if row != () and place <= row[-1]:
        return False
    return keys[place] not in [keys[other] for other in row]
