"""Sets of things by their places, told as numbers whose binary digits tell which things belong to them."""


def members(number):
    """Return the places of the things of a set, in ascending order."""
    return [place for place in range(number.bit_length()) if number & (1 << place) > 0]
