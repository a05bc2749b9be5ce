"""Ranges of numbers: the first term that all of one have, and what rows make of a cone."""

from termstream.between import between, need_range
from termstream.cones import is_cone
from termstream.corners import range_over
from termstream.errors import Flat, NoCone, NoRows
from termstream.fractions import first_term, need_fractions, plus
from termstream.manners import need_manner
from termstream.words import are_numbers, is_pair

HALF = (1, 2)


def is_rows(thing):
    """Whether the thing is a tuple of two tuples of two whole numbers each."""
    return is_pair(thing) and all([is_pair(row) and are_numbers(row) for row in thing])


def need_rows(thing):
    """Refuses what are no rows, and rows that reckon the same of all numbers."""
    if not is_rows(thing):
        raise NoRows(thing)
    (a, b), (c, d) = thing
    if a * d == b * c:
        raise Flat(thing)


def rows_times(one, other):
    """The product of two rows."""
    for rows in (one, other):
        if not is_rows(rows):
            raise NoRows(rows)
    (a, b), (c, d) = one
    (e, f), (g, h) = other
    return ((a * e + b * g, a * f + b * h), (c * e + d * g, c * f + d * h))


def low_term(low, low_in, manner):
    """The first term of the numbers of a range that are next to its low end."""
    if manner == "ceil" and not low_in:
        return low[0] // low[1] + 1
    return first_term(low[0], low[1], manner)


def high_term(high, high_in, manner):
    """The first term of the numbers of a range that are next to its high end."""
    top, bottom = high
    if high_in or manner == "ceil":
        return first_term(top, bottom, manner)
    if manner == "near":
        top, bottom = 2 * top + bottom, 2 * bottom
    return first_term(top, bottom, "ceil") - 1


def settled_term(low, low_in, high, high_in, manner):
    """As `settled` tells, of ends that are tops over bottoms above nought."""
    # The first term never falls as the numbers rise, so the two ends tell all.
    term = low_term(low, low_in, manner)
    return term if term == high_term(high, high_in, manner) else None


def settled(low, low_in, high, high_in, manner="floor"):
    """The first term of all numbers of the range, or None where two have unlike ones."""
    need_manner(manner)
    need_fractions(low, high)
    need_range(low, high, low_in, high_in)
    return settled_term(low, low_in, high, high_in, manner)


def cut_of(low, low_in, high, high_in, manner):
    """Where the first terms of a range that isn't settled become others."""
    below = 0
    if low is not None:
        below = low_term(low, low_in, manner)
    elif high is not None:
        below = high_term(high, high_in, manner) - 1
    if manner == "near":
        return plus((below, 1), HALF)
    return (below, 1) if manner == "ceil" else (below + 1, 1)


def parted(low, low_in, high, high_in, manner):
    """Two fractions with unlike first terms of a range that isn't settled.

    An end of the range may be None, where it has no bound.
    """
    cut = cut_of(low, low_in, high, high_in, manner)
    below_has_cut = manner == "ceil"
    one = between(low, cut, low_in, below_has_cut)
    return (one, between(cut, high, not below_has_cut, high_in))


def range_of(rows, cone):
    """The range of all numbers that the rows make of the cone's rests, or None."""
    need_rows(rows)
    if not is_cone(cone):
        raise NoCone(cone)
    return range_over(rows[0], rows[1], [list(cone)])
