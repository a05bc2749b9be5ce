"""Rows of whole terms in the manner `floor`, and the turns that tell them."""

from termstream.errors import NoRow
from termstream.fractions import need_fractions
from termstream.words import are_numbers


def is_floor_row(thing):
    """Whether the thing is a row that is legal in the manner `floor`."""
    if not are_numbers(thing) or len(thing) == 0:
        return False
    if not all([term >= 1 for term in thing[1:]]):
        return False
    return len(thing) == 1 or thing[-1] != 1


def need_floor_row(thing):
    """Refuses the thing where it is no legal row."""
    if not is_floor_row(thing):
        raise NoRow(thing)


def floor_row(fraction):
    """The fraction's row, a list."""
    need_fractions(fraction)
    top, bottom = fraction
    row = []
    while bottom != 0:
        row.append(top // bottom)
        top, bottom = bottom, top % bottom
    return row


def fraction_of(row):
    """The fraction that a legal row writes."""
    need_floor_row(row)
    turn = turn_of(row)
    return (turn[0][0], turn[1][0])


def turned(rows, term):
    """The product of the rows and the rows ((term, 1), (1, 0))."""
    (a, b), (c, d) = rows
    return ((a * term + b, a), (c * term + d, c))


def turn_of(terms):
    """The turn of a list of whole numbers, perhaps of none."""
    if not are_numbers(terms):
        raise NoRow(terms)
    rows = ((1, 0), (0, 1))
    for term in terms:
        rows = turned(rows, term)
    return rows


def beginnings(row):
    """The fractions of a legal row's first term, its first two, and so on to all."""
    need_floor_row(row)
    found = []
    rows = ((1, 0), (0, 1))
    for term in row:
        rows = turned(rows, term)
        found.append((rows[0][0], rows[1][0]))
    return found


def unlike_place(one, other):
    """The first place at which the rows have unlike terms, or one has none."""
    place = 0
    for term, other_term in zip(one, other):
        if term != other_term:
            return place
        place += 1
    return place


def parting(one, other):
    """None of rows that are the same, else the place where they part and a sign."""
    need_floor_row(one)
    need_floor_row(other)
    place = unlike_place(one, other)
    if place == len(one) and place == len(other):
        return None
    # An end counts as a term greater than all.
    if place == len(one):
        greater = True
    elif place == len(other):
        greater = False
    else:
        greater = one[place] > other[place]
    # Behind each term stands one over what follows, which turns the order about.
    if place & 1:
        greater = not greater
    return (place, 1 if greater else -1)
