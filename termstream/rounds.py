"""Rows that come round: their equations, their Surds, and their least rounds."""

from termstream.errors import NoRound, NoRow, NoSurd, NoTerm
from termstream.rows import turn_of
from termstream.surds import Surd
from termstream.words import are_numbers, is_list, is_number

MOST_AHEAD = 100
LONGEST_ROUND = 20


def need_round_row(terms, again):
    """Refuses what are no terms ahead, and then what is no round."""
    if not is_list(terms) or len(terms) > MOST_AHEAD:
        raise NoRow(terms)
    for at, term in enumerate(terms):
        if not is_number(term) or (at > 0 and term < 1):
            raise NoTerm(term)
    if not is_list(again) or not 1 <= len(again) <= LONGEST_ROUND:
        raise NoRound(again)
    for term in again:
        if not is_number(term) or term < 1:
            raise NoTerm(term)


def number_round(again):
    """The p, d and q of the number whose row is the round, again and again."""
    # It is the greater root y of y = (a * y + b) / (c * y + d).
    (a, b), (c, d) = turn_of(again)
    return (a - d, (a - d) * (a - d) + 4 * b * c, 2 * c)


def number_of_round(terms, again):
    """The number, a Surd, whose row is the terms and then the round, again and again."""
    p, d, q = number_round(again)
    (a, b), (c, e) = turn_of(terms)
    # Of the rest y it is (a * y + b) / (c * y + e), here times q, and then times
    # what leaves no root below.
    above, below = a * p + b * q, c * p + e * q
    whole = above * below - a * c * d
    times = a * below - c * above
    bottom = below * below - c * c * d
    if times < 0:
        whole, times, bottom = -whole, -times, -bottom
    return Surd(whole, times * times * d, bottom)


def equation_of(terms, again):
    """The whole numbers A, B and C of the equation of the number whose row goes so."""
    need_round_row(terms, again)
    return number_of_round(terms, again).equation()


def surd_of(terms, again):
    """The number whose row goes so, told by its equation."""
    need_round_row(terms, again)
    number = number_of_round(terms, again)
    a, b, c = number.equation()
    p, d, q = -b, b * b - 4 * a * c, 2 * a
    if (b & 1) == 0:
        p, d, q = p // 2, d // 4, a
    found = Surd(p, d, q)
    return found if found == number else Surd(-p, d, -q)


def shortest(again):
    """The shortest round that is the round, once or again and again."""
    many = len(again)
    for part in range(1, many):
        if many % part == 0 and again[:part] * (many // part) == again:
            return again[:part]
    return again


def least_row(terms, again):
    """The same row by the fewest terms ahead and the shortest round."""
    need_round_row(terms, again)
    ahead = list(terms)
    least = shortest(list(again))
    while ahead and ahead[-1] == least[-1]:
        least = [ahead.pop(), *least[:-1]]
    return (ahead, least)


def shows_row(surd, terms, again):
    """Whether the Surd's row comes round by just these terms ahead and this round."""
    if not isinstance(surd, Surd):
        raise NoSurd(surd)
    if not are_numbers(terms) or not are_numbers(again):
        return False
    return surd.course(len(terms) + len(again)) == ("round", list(terms), list(again))
