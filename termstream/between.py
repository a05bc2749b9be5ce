"""The fraction of the least bottom in a range, and parents of fractions."""

from termstream.errors import NoBounds, NoFraction, NoneThere
from termstream.fractions import first_term, is_fraction, need_fractions, sign_of
from termstream.nearest import neighbours
from termstream.rows import fraction_of


def need_range(low, high, low_in, high_in):
    """Refuses what is no range of fractions."""
    for end in (low, high):
        if end is not None and not is_fraction(end):
            raise NoFraction(end)
    if low is None or high is None:
        return
    sign = sign_of(low, high)
    if sign > 0 or (sign == 0 and not (low_in and high_in)):
        raise NoBounds((low, high))


def least_whole(low, low_in):
    """The least whole number that isn't under a range's low end."""
    if low[1] == 1 and not low_in:
        return low[0] + 1
    return first_term(low[0], low[1], "ceil")


def greatest_whole(high, high_in):
    """The greatest whole number that isn't over a range's high end."""
    if high[1] == 1 and not high_in:
        return high[0] - 1
    return first_term(high[0], high[1], "floor")


def whole_between(low, high, low_in, high_in):
    """The whole number of the range that is nearest to nought, or None."""
    least = None if low is None else least_whole(low, low_in)
    greatest = None if high is None else greatest_whole(high, high_in)
    if least is not None and greatest is not None and least > greatest:
        return None
    if least is not None and least > 0:
        return least
    if greatest is not None and greatest < 0:
        return greatest
    return 0


def rest_of(end, term):
    """One over what is left of the end, which isn't below the term; None is no bound."""
    left = end[0] - term * end[1]
    return None if left == 0 else (end[1], left)


def between(low, high, low_in=False, high_in=False):
    """The fraction of the range that has the least bottom."""
    need_range(low, high, low_in, high_in)
    terms = []
    whole = whole_between(low, high, low_in, high_in)
    while whole is None:
        # No whole number parts the range, so all of it has one floor, and the
        # least bottom belongs to the rest that is the simplest one in its turn.
        term = first_term(low[0], low[1], "floor")
        terms.append(term)
        low, high = rest_of(high, term), rest_of(low, term)
        low_in, high_in = high_in, low_in
        whole = whole_between(low, high, low_in, high_in)
    terms.append(whole)
    return fraction_of(terms)


def shows_between(low, high, thing, low_in=False, high_in=False):
    """Whether the thing is the fraction of the range that has the least bottom."""
    right = between(low, high, low_in, high_in)
    return is_fraction(thing) and thing == right


def middle(one, other):
    """The fraction between two that are side by side."""
    need_fractions(one, other)
    (a, b), (c, d) = one, other
    if c * b - a * d != 1:
        raise NoBounds((one, other))
    return (a + c, b + d)


def parents(fraction):
    """The two fractions side by side between which this one is the middle."""
    need_fractions(fraction)
    if fraction[1] == 1:
        raise NoneThere(fraction)
    return neighbours(fraction, fraction[1] - 1)
