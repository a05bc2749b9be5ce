"""Plain searches and rules, by Python's own fractions, to hold the program against."""

from fractions import Fraction
from math import ceil, floor, gcd

MANNERS = ("floor", "ceil", "near")


def value(fraction):
    return Fraction(*fraction)


def told(number):
    return (number.numerator, number.denominator)


def fractions_to(most, span=2):
    """All fractions from -span to span with bottoms up to most."""
    return [
        (top, bottom)
        for bottom in range(1, most + 1)
        for top in range(-span * bottom, span * bottom + 1)
        if gcd(top, bottom) == 1
    ]


def first_by_rule(number, manner):
    """The first term, by the rule of the manner."""
    if manner == "floor":
        return floor(number)
    if manner == "ceil":
        return ceil(number)
    return floor(number + Fraction(1, 2))


def row_by_rule(number, manner):
    """The row of the number, term by term by the rule of the manner."""
    row = []
    while True:
        term = first_by_rule(number, manner)
        row.append(term)
        if term == number:
            return row
        number = 1 / (term - number if manner == "ceil" else number - term)


def value_by_rule(row, manner):
    """The number that is reckoned of the terms, or None where a rest is nought."""
    number = Fraction(row[-1])
    for term in reversed(row[:-1]):
        if number == 0:
            return None
        number = term - 1 / number if manner == "ceil" else term + 1 / number
    return number


def is_row_by_rule(row, manner):
    """Whether the whole numbers are the row of the number that they write."""
    if not row:
        return False
    number = value_by_rule(row, manner)
    if number is None:
        return False
    for term in row[:-1]:
        if term == number or first_by_rule(number, manner) != term:
            return False
        number = 1 / (term - number if manner == "ceil" else number - term)
    return number == row[-1]


def is_beginning_by_rule(terms, manner):
    """Whether some row begins so: it ends there, or goes on with 5 or -5."""
    return any(is_row_by_rule([*terms, *rest], manner) for rest in ([], [5], [-5]))


def lists_of(numbers, most):
    """All lists of none to most of the numbers."""
    found = [[]]
    for terms in found:
        if len(terms) < most:
            found.extend([*terms, number] for number in numbers)
    return found
