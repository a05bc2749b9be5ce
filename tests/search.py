"""Plain searches and rules, by Python's own fractions, to hold the program against."""

from fractions import Fraction
from math import ceil, floor, gcd

MANNERS = ("floor", "ceil", "near")


def value(fraction):
    return Fraction(*fraction)


def told(number):
    return (number.numerator, number.denominator)


def fractions_to(most, span=2):
    """All fractions from -span to span with bottoms up to most."""
    return [
        (top, bottom)
        for bottom in range(1, most + 1)
        for top in range(-span * bottom, span * bottom + 1)
        if gcd(top, bottom) == 1
    ]


def first_by_rule(number, manner):
    """The first term, by the rule of the manner."""
    if manner == "floor":
        return floor(number)
    if manner == "ceil":
        return ceil(number)
    return floor(number + Fraction(1, 2))


def row_by_rule(number, manner):
    """The row of the number, term by term by the rule of the manner."""
    row = []
    while True:
        term = first_by_rule(number, manner)
        row.append(term)
        if term == number:
            return row
        number = 1 / (term - number if manner == "ceil" else number - term)


def value_by_rule(row, manner):
    """The number that is reckoned of the terms, or None where a rest is nought."""
    number = Fraction(row[-1])
    for term in reversed(row[:-1]):
        if number == 0:
            return None
        number = term - 1 / number if manner == "ceil" else term + 1 / number
    return number


def is_row_by_rule(row, manner):
    """Whether the whole numbers are the row of the number that they write."""
    if not row:
        return False
    number = value_by_rule(row, manner)
    if number is None:
        return False
    for term in row[:-1]:
        if term == number or first_by_rule(number, manner) != term:
            return False
        number = 1 / (term - number if manner == "ceil" else number - term)
    return number == row[-1]


def is_beginning_by_rule(terms, manner):
    """Whether some row begins so: it ends there, or goes on with 5 or -5."""
    return any(is_row_by_rule([*terms, *rest], manner) for rest in ([], [5], [-5]))


def lists_of(numbers, most):
    """All lists of none to most of the numbers."""
    found = [[]]
    for terms in found:
        if len(terms) < most:
            found.extend([*terms, number] for number in numbers)
    return found


def with_rest(terms, rest, manner):
    """The number whose terms go on with the rest, or None."""
    number = rest
    for term in reversed(terms):
        if number == 0:
            return None
        number = term - 1 / number if manner == "ceil" else term + 1 / number
    return number


def first_by_rule_and_rest(number, many, manner):
    """The first many terms by the rule of the manner, and the rest, None where the row ends ahead of it."""
    terms = []
    while len(terms) < many and number is not None:
        term = first_by_rule(number, manner)
        terms.append(term)
        left = term - number if manner == "ceil" else number - term
        number = 1 / left if left else None
    return terms, number


def is_rest(terms, rest, manner):
    """Whether a row that goes on with the rest begins with the terms, by the rule."""
    number = with_rest(terms, rest, manner)
    return number is not None and first_by_rule_and_rest(number, len(terms), manner) == (terms, rest)


def sums_of(sides, many=(1, 2, 3, 5, 10 ** 9)):
    """Many sums of a cone's vectors, its sides first where they are in, and what each is."""
    if len(sides) == 1:
        return [sides[0][0]]
    (one, one_in), (other, other_in) = sides
    found = [one] * one_in + [other] * other_in
    for k in many:
        for m in many:
            found.append((k * one[0] + m * other[0], k * one[1] + m * other[1]))
    return found


def is_same_range(told_range, numbers):
    """Whether the told range is that of the many numbers, so far as they tell.

    The numbers are tuples of a top and a bottom, some of them next to the ends.
    """
    signs = {bottom > 0 for _, bottom in numbers if bottom != 0}
    if len(signs) != 1 or any(bottom == 0 for _, bottom in numbers):
        return told_range is None
    values = [Fraction(*number) for number in numbers]
    if max(map(abs, values)) > 10 ** 5:
        return told_range is None
    if told_range is None:
        return False
    low, low_in, high, high_in = told_range
    near = Fraction(1, 10 ** 5)
    return (
        value(low) <= min(values) < value(low) + near and low_in is (value(low) in values)
        and value(high) - near < max(values) <= value(high) and high_in is (value(high) in values)
    )


def begin_with(terms, pool, manner):
    """Those fractions of the pool whose rows begin with the terms."""
    many = len(terms)
    return [part for part in pool if first_by_rule_and_rest(value(part), many, manner)[0] == list(terms)]
