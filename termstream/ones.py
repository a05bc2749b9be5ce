"""Machines of one stream, a plain reckoning of what they tell, and of what isn't settled."""

from termstream.corners import form_at
from termstream.errors import NoNumber
from termstream.fractions import is_fraction, lowest, need_fractions
from termstream.machines import Machine, need_depth, need_most
from termstream.manners import first_terms, need_manner
from termstream.ranges import need_rows
from termstream.streams import need_stream
from termstream.words import are_numbers, is_whole

MOST_RECKONED = 60
LAST_PLACE = 999


class One(Machine):
    """The machine of one stream's number x: of (a * x + b) / (c * x + d)."""

    def __init__(self, rows, stream, manner="floor", most=40):
        need_rows(rows)
        need_stream(stream)
        need_manner(manner)
        need_most(most)
        need_depth(stream)
        Machine.__init__(self, rows, [stream], manner, most)

    def fold(self, form, at, rows):
        """The form for the rest of the stream behind one term more."""
        a, b = form
        (t, s), _ = rows
        return (a * t + b, a * s)


def made_of(rows, vectors):
    """The number that the rows make of numbers, or None where there is none."""
    below = form_at(rows[1], vectors)
    return None if below == 0 else lowest(form_at(rows[0], vectors), below)


def need_many(many):
    """Refuses what is no count of terms that are reckoned."""
    if not is_whole(many, 0, MOST_RECKONED):
        raise NoNumber(many)


def told_terms(number, many, manner):
    """The first many terms of the number, or of none, and the word behind them."""
    if many == 0:
        return ([], "more")
    if number is None:
        return ([], "nought")
    terms, _ = first_terms(number, many, manner)
    return (terms, "more" if len(terms) == many else "end")


def plain_one(rows, x, many, manner="floor"):
    """The first many terms of the number that the rows make of x, and the word behind them."""
    need_rows(rows)
    need_fractions(x)
    need_many(many)
    need_manner(manner)
    return told_terms(made_of(rows, [x]), many, manner)


def begins_so(thing, terms, manner):
    """Whether the thing is a fraction whose row begins with the terms."""
    return is_fraction(thing) and first_terms(thing, len(terms), manner)[0] == list(terms)


def are_apart(number, other, place, manner):
    """Whether the rows of two numbers, or of none, part at just this place."""
    if number is None or other is None:
        return place == 0 and number != other
    row, _ = first_terms(number, place + 1, manner)
    other_row, _ = first_terms(other, place + 1, manner)
    return row[:place] == other_row[:place] and row != other_row


def shows_apart(rows, terms, one, other, place, manner="floor", of="floor"):
    """Whether two numbers show that behind the terms the thing at the place isn't settled."""
    need_rows(rows)
    need_manner(manner)
    need_manner(of)
    if not are_numbers(terms) or not is_whole(place, 0, LAST_PLACE):
        return False
    if not begins_so(one, terms, of) or not begins_so(other, terms, of):
        return False
    return are_apart(made_of(rows, [one]), made_of(rows, [other]), place, manner)
