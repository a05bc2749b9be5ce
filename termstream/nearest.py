"""The fractions of small bottoms that are nearest to a fraction."""

from termstream.errors import NoNumber
from termstream.fractions import is_fraction, need_fractions
from termstream.words import is_number, is_pair, is_whole

MOST_LISTED = 200


def neighbours(fraction, bound):
    """The greatest fraction not above this one, and the least not below it."""
    need_fractions(fraction)
    if not is_number(bound) or bound < 1:
        raise NoNumber(bound)
    if fraction[1] <= bound:
        return (fraction, fraction)
    return strict_neighbours(fraction, bound)


def strict_neighbours(fraction, bound):
    """The neighbours of a fraction whose bottom is more than the bound."""
    top, bottom = fraction
    a, b = top // bottom, 1
    c, d = a + 1, 1
    # Of the fractions between the two, (a + c, b + d) has the least bottom.
    while b + d <= bound:
        steps = min((bound - b) // d, (top * b - a * bottom) // (c * bottom - top * d))
        a, b = a + steps * c, b + steps * d
        steps = min((bound - d) // b, (c * bottom - top * d) // (top * b - a * bottom))
        c, d = c + steps * a, d + steps * b
    return ((a, b), (c, d))


def shows_neighbours(fraction, bound, thing):
    """Whether the thing is the tuple of the fraction's neighbours."""
    right = neighbours(fraction, bound)
    # True equals 1, but is no whole number.
    if not is_pair(thing) or not is_fraction(thing[0]) or not is_fraction(thing[1]):
        return False
    return thing == right


def nearest(fraction, bound):
    """The nearer one of the neighbours."""
    low, high = neighbours(fraction, bound)
    top, bottom = fraction
    below = (top * low[1] - low[0] * bottom) * high[1]
    above = (high[0] * bottom - top * high[1]) * low[1]
    if below != above:
        return low if below < above else high
    # As near: the lesser bottom, and of two whole ones the lesser number.
    return low if low[1] <= high[1] else high


def nearest_row(fraction, bound=200):
    """From which bound on which fraction is the nearest one, a list of tuples."""
    need_fractions(fraction)
    if not is_whole(bound, 1, MOST_LISTED):
        raise NoNumber(bound)
    found = [(1, nearest(fraction, 1))]
    for most in range(2, bound + 1):
        best = nearest(fraction, most)
        if best != found[-1][1]:
            found.append((most, best))
    return found
