"""Surds: whole numbers and roots of whole numbers, divided by whole numbers."""

from math import gcd, isqrt

from termstream.errors import NoNumber, NoSurd
from termstream.fractions import lowest, whole_of
from termstream.rows import floor_row
from termstream.words import is_number, is_whole

MOST_TERMS = 400


def sign(number):
    """-1, 0 or 1: the whole number is below nought, nought, or above."""
    if number == 0:
        return 0
    return -1 if number < 0 else 1


def sign_beside_root(whole, times, number):
    """The sign of whole + times * the root of the number."""
    by_root = sign(times) if number > 0 else 0
    if by_root == 0 or sign(whole) in (0, by_root):
        return by_root or sign(whole)
    # Of unlike signs: the one whose square is greater goes.
    return sign(whole) * sign(whole * whole - times * times * number)


def sign_of_difference(one, other):
    """The sign of the one number (p + the root of d) / q less the other one."""
    (p, d, q), (r, e, s) = one, other
    # Times q * s the difference is whole + s * the root of d - q * the root of e.
    whole = p * s - r * q
    left = sign_beside_root(whole, s, d)
    right = sign(-q) if e > 0 else 0
    found = left or right
    if left * right < 0:
        squares = whole * whole + s * s * d - q * q * e
        found = left * sign_beside_root(squares, 2 * whole * s, d)
    return found * sign(q) * sign(s)


def step_of(p, q, root):
    """The floor of (p + a root) / q, of a root that is no whole number and has this floor."""
    return (p + root) // q if q > 0 else (p + root + 1) // q


def rest_behind(p, d, q, term):
    """The p and q of the rest, where q divides d - p * p, and so it does again."""
    left = term * q - p
    return (left, (d - left * left) // q)


class Surd:
    """The number (p + the root of d) / q; it never changes."""

    def __init__(self, p, d, q=1):
        if not is_number(p):
            raise NoSurd(p)
        if not is_number(d) or d < 0:
            raise NoSurd(d)
        if not is_number(q) or q == 0:
            raise NoSurd(q)
        self._p = p
        self._d = d
        self._q = q

    def __str__(self):
        return f"({self._p} + root {self._d}) / {self._q}"

    def __repr__(self):
        return f"Surd({self._p}, {self._d}, {self._q})"

    def __eq__(self, other):
        return isinstance(other, Surd) and self.compare(other) == "same"

    def told(self):
        """The p, d and q, as they were handed in."""
        return (self._p, self._d, self._q)

    def compare(self, other):
        """`less`, `same` or `more`: how it stands to the other one."""
        if not isinstance(other, Surd):
            raise NoSurd(other)
        found = sign_of_difference(self.told(), other.told())
        if found == 0:
            return "same"
        return "less" if found < 0 else "more"

    def fraction(self):
        """The fraction that it is, or None."""
        root = isqrt(self._d)
        if root * root != self._d:
            return None
        return lowest(self._p + root, self._q)

    def other_root(self):
        """Its conjugate: the root taken off where it is added."""
        return Surd(-self._p, self._d, -self._q)

    def equation(self):
        """The whole numbers A, B and C of which it is a root."""
        number = self.fraction()
        if number is not None:
            return (0, number[1], -number[0])
        a, b, c = self._q * self._q, -2 * self._p * self._q, self._p * self._p - self._d
        common = gcd(gcd(a, b), c)
        return (a // common, b // common, c // common)

    def divided(self):
        """The p, d and q of the same number such that q divides d - p * p."""
        p, d, q = self.told()
        if (d - p * p) % q == 0:
            return (p, d, q)
        many = abs(q)
        return (p * many, d * many * many, q * many)

    def floor(self):
        """The greatest whole number that isn't above it."""
        number = self.fraction()
        if number is not None:
            return whole_of(number)
        return step_of(self._p, self._q, isqrt(self._d))

    def rest(self):
        """What the terms behind the first one write, or None."""
        number = self.fraction()
        term = self.floor()
        if number is None:
            p, d, q = self.divided()
            left, below = rest_behind(p, d, q, term)
            return Surd(left, d, below)
        top, bottom = number
        return None if bottom == 1 else Surd(bottom, 0, top - term * bottom)

    def terms(self, many=20):
        """The first many terms of its row, or all where there are no more."""
        if not is_whole(many, 1, MOST_TERMS):
            raise NoNumber(many)
        number = self.fraction()
        if number is not None:
            return floor_row(number)[:many]
        p, d, q = self.divided()
        root = isqrt(d)
        found = []
        while len(found) < many:
            found.append(step_of(p, q, root))
            p, q = rest_behind(p, d, q, found[-1])
        return found

    def comes_round(self, most=200):
        """How its row goes: it ends, it comes round, or neither within most terms."""
        if not is_whole(most, 1, MOST_TERMS):
            raise NoNumber(most)
        return self.course(most)

    def course(self, most):
        """As `comes_round` tells, but of any most."""
        number = self.fraction()
        if number is not None:
            row = floor_row(number)
            return ("end", row) if len(row) <= most else ("open", row[:most])
        p, d, q = self.divided()
        root = isqrt(d)
        found = []
        places = {}
        # The row comes round just where a rest comes again, and of one d each
        # rest has one p and one q.
        while (p, q) not in places:
            if len(found) == most:
                return ("open", found)
            places[(p, q)] = len(found)
            found.append(step_of(p, q, root))
            p, q = rest_behind(p, d, q, found[-1])
        ahead = places[(p, q)]
        return ("round", found[:ahead], found[ahead:])

    def reduced(self):
        """Whether its row comes round without terms ahead."""
        if self.fraction() is not None or self.compare(Surd(1, 0)) != "more":
            return False
        other = self.other_root()
        return other.compare(Surd(-1, 0)) == "more" and other.compare(Surd(0, 0)) == "less"
