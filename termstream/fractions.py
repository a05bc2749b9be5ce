"""Fractions: tuples of a top and a bottom, in their lowest terms."""

from math import gcd

from termstream.errors import NoFraction, NoManner, NoNumber, Nought
from termstream.words import is_manner, is_number, is_pair, number_of


def is_fraction(thing):
    """Whether the thing is a tuple of a top and a bottom in their lowest terms."""
    if not is_pair(thing):
        return False
    top, bottom = thing
    if not is_number(top) or not is_number(bottom):
        return False
    return bottom >= 1 and gcd(top, bottom) == 1


def need_fractions(*things):
    """Refuses the first of the things that is no fraction."""
    for thing in things:
        if not is_fraction(thing):
            raise NoFraction(thing)


def fraction_text(fraction):
    """The text of the fraction: `-22/7`, `3`."""
    need_fractions(fraction)
    top, bottom = fraction
    if bottom == 1:
        return str(top)
    return f"{top}/{bottom}"


def read_fraction(text):
    """The fraction that the text writes."""
    if not isinstance(text, str):
        raise NoFraction(text)
    top_text, sign, bottom_text = text.partition("/")
    top = number_of(top_text)
    bottom = number_of(bottom_text) if sign else 1
    # A bottom of 1 is never written, so `4/1` is no text of a fraction.
    if not is_fraction((top, bottom)) or (sign and bottom == 1):
        raise NoFraction(text)
    return (top, bottom)


def lowest(top, bottom=1):
    """The fraction whose value is the top divided by the bottom."""
    for number in (top, bottom):
        if not is_number(number):
            raise NoNumber(number)
    if bottom == 0:
        raise Nought(top)
    common = gcd(top, bottom)
    if bottom < 0:
        common = -common
    return (top // common, bottom // common)


def plus(one, other):
    """The sum of two fractions."""
    need_fractions(one, other)
    return lowest(one[0] * other[1] + other[0] * one[1], one[1] * other[1])


def minus(one, other):
    """The difference of two fractions, the second one taken off."""
    need_fractions(one, other)
    return lowest(one[0] * other[1] - other[0] * one[1], one[1] * other[1])


def times(one, other):
    """The product of two fractions."""
    need_fractions(one, other)
    return lowest(one[0] * other[0], one[1] * other[1])


def over(one, other):
    """The first fraction divided by the second one."""
    need_fractions(one, other)
    if other[0] == 0:
        raise Nought(one)
    return lowest(one[0] * other[1], one[1] * other[0])


def sign_of(one, other):
    """-1, 0 or 1: the first fraction is below the second one, equal, or above."""
    need_fractions(one, other)
    left = one[0] * other[1]
    right = other[0] * one[1]
    if left == right:
        return 0
    return -1 if left < right else 1


def first_term(top, bottom, manner):
    """The first term of top / bottom in the manner; the bottom is above nought."""
    if manner == "floor":
        return top // bottom
    if manner == "ceil":
        return -(-top // bottom)
    return (2 * top + bottom) // (2 * bottom)


def whole_of(fraction, how="floor"):
    """The fraction's floor, the least whole number not below it, or the nearest."""
    need_fractions(fraction)
    if not is_manner(how):
        raise NoManner(how)
    return first_term(fraction[0], fraction[1], how)
