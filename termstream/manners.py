"""Rows of the three manners `floor`, `ceil` and `near`, and their beginnings."""

from termstream.errors import NoManner, NoRow, NoTerm, TooMany
from termstream.fractions import first_term, lowest, need_fractions
from termstream.words import are_numbers, is_manner, is_number

MOST_TERMS = 1000


def need_manner(manner):
    """Refuses what is none of the three words."""
    if not is_manner(manner):
        raise NoManner(manner)


def follows_near(before, term):
    """Whether the term may stand behind the one before, which isn't the first."""
    if before == 2:
        return term > 0
    if before == -2:
        return term < 0
    return True


def is_beginning(thing, manner):
    """Whether the thing is a list that rows of the manner begin with."""
    if not are_numbers(thing):
        return False
    rest = thing[1:]
    if manner == "floor":
        return all([term >= 1 for term in rest])
    if manner == "ceil":
        return all([term >= 2 for term in rest])
    if not all([abs(term) >= 2 for term in rest]):
        return False
    return all([follows_near(before, term) for before, term in zip(rest, rest[1:])])


def need_beginning(thing, manner):
    """Refuses what is no beginning in the manner."""
    if not is_beginning(thing, manner):
        raise NoRow(thing)


def ends_well(terms, manner):
    """Whether a row of the manner may end behind this beginning."""
    if len(terms) <= 1:
        return len(terms) == 1
    if manner == "floor":
        return terms[-1] != 1
    if manner == "near":
        return terms[-1] != 2
    return True


def is_row(thing, manner="floor"):
    """Whether the thing is a row that is legal in the manner, and ends."""
    need_manner(manner)
    return is_beginning(thing, manner) and ends_well(thing, manner)


def first_terms(fraction, many, manner):
    """The first many terms of the fraction's row, and whether they are all of it."""
    top, bottom = fraction
    terms = []
    while len(terms) < many:
        term = first_term(top, bottom, manner)
        terms.append(term)
        left = top - term * bottom
        if left == 0:
            return (terms, True)
        if manner == "ceil":
            left = -left
        top, bottom = lowest(bottom, left)
    return (terms, False)


def row_of(fraction, manner="floor"):
    """The fraction's row in the manner, a list."""
    need_manner(manner)
    need_fractions(fraction)
    row, ended = first_terms(fraction, MOST_TERMS, manner)
    if not ended:
        raise TooMany(MOST_TERMS + 1)
    return row


def number_behind(terms, rest, manner):
    """The number whose row is the terms and then the rest's; of an end the rest is (1, 0)."""
    sign = -1 if manner == "ceil" else 1
    top, bottom = rest
    for term in reversed(terms):
        top, bottom = term * top + sign * bottom, top
    return lowest(top, bottom)


def number_of(row, manner="floor"):
    """The fraction that a legal row of the manner writes."""
    if not is_row(row, manner):
        raise NoRow(row)
    return number_behind(row, (1, 0), manner)


def may_follow(terms, thing, manner="floor"):
    """Whether the thing is a term that may stand behind the beginning."""
    need_manner(manner)
    need_beginning(terms, manner)
    return is_beginning([*terms, thing], manner)


def may_end(terms, manner="floor"):
    """Whether a row may end behind the beginning."""
    need_manner(manner)
    need_beginning(terms, manner)
    return ends_well(terms, manner)


def need_term(thing):
    """Refuses what is no whole number."""
    if not is_number(thing):
        raise NoTerm(thing)


def taken_rows(t, manner="floor"):
    """The rows by which a number with the first term t comes of its rest."""
    need_manner(manner)
    need_term(t)
    return ((t, -1 if manner == "ceil" else 1), (1, 0))


def given_rows(t, manner="floor"):
    """The rows by which the rest comes of a number with the first term t."""
    need_manner(manner)
    need_term(t)
    if manner == "ceil":
        return ((0, 1), (-1, t))
    return ((0, 1), (1, -t))
