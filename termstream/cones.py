"""Cones: what the rest of a number can be behind a beginning of its row."""

from termstream.errors import NoRow
from termstream.manners import need_beginning, need_manner
from termstream.words import is_number, is_pair

# The rests above 1, with the row's end, and without it.
ABOVE_ONE = (((1, 1), False), ((1, 0), True))
ABOVE_ONE_ENDLESS = (((1, 1), False), ((1, 0), False))

# The rests above 2 and those from -2 down, with the row's end; then each by itself.
FAR = (((2, 1), False), ((2, -1), True))
ABOVE_TWO = (((2, 1), False), ((1, 0), False))
BELOW_TWO = (((1, 0), True), ((2, -1), True))


def cone(terms, manner="floor"):
    """The cone behind a beginning with one term or more."""
    need_manner(manner)
    need_beginning(terms, manner)
    if len(terms) == 0:
        raise NoRow(terms)
    return cone_behind(terms, manner)


def cone_behind(terms, manner):
    """The cone behind what is known to be a beginning with one term or more."""
    # Behind the first term alone the rest is as free as behind any great one.
    last = terms[-1] if len(terms) > 1 else None
    if manner == "near":
        if last == 2:
            return ABOVE_TWO
        return BELOW_TWO if last == -2 else FAR
    if manner == "floor" and last == 1:
        return ABOVE_ONE_ENDLESS
    return ABOVE_ONE


def is_side(thing):
    """Whether the thing is a vector of two whole numbers, and True or False."""
    if not is_pair(thing) or not is_pair(thing[0]) or not isinstance(thing[1], bool):
        return False
    return is_number(thing[0][0]) and is_number(thing[0][1])


def is_cone(thing):
    """Whether the thing is one of the cones."""
    # True equals 1, so the kinds are looked at ahead of the values.
    if not is_pair(thing) or not is_side(thing[0]) or not is_side(thing[1]):
        return False
    return thing in (ABOVE_ONE, ABOVE_ONE_ENDLESS, FAR, ABOVE_TWO, BELOW_TWO)
