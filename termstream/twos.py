"""Machines of two streams, a plain reckoning of what they tell, and of what isn't settled."""

from termstream.errors import Flat, NoRows
from termstream.fractions import need_fractions
from termstream.machines import Machine, need_depth, need_most
from termstream.manners import need_manner
from termstream.ones import LAST_PLACE, are_apart, begins_so, made_of, need_many, told_terms
from termstream.streams import need_stream
from termstream.words import are_numbers, is_pair, is_whole


def is_four(thing):
    """Whether the thing is a tuple of four whole numbers."""
    return isinstance(thing, tuple) and len(thing) == 4 and are_numbers(thing)


def need_pair_rows(thing):
    """Refuses what are no rows of two streams, and rows that are in one proportion."""
    if not is_pair(thing) or not is_four(thing[0]) or not is_four(thing[1]):
        raise NoRows(thing)
    top, bottom = thing
    places = range(4)
    if all([top[at] * bottom[to] == top[to] * bottom[at] for at in places for to in places]):
        raise Flat(thing)


class Two(Machine):
    """The machine of two numbers: of (a * x * y + b * x + c * y + d) / (e * x * y + f * x + g * y + h)."""

    def __init__(self, rows, one, other, manner="floor", most=40):
        need_pair_rows(rows)
        need_stream(one)
        need_stream(other)
        need_manner(manner)
        need_most(most)
        need_depth(one, other)
        Machine.__init__(self, rows, [one, other], manner, most)

    def next_stream(self):
        """The one of which fewer terms are taken, the first one of as many; the other one of one that has ended."""
        if self._ended[0] or self._ended[1]:
            return 1 if self._ended[0] else 0
        return 1 if len(self._taken[1]) < len(self._taken[0]) else 0

    def fold(self, form, at, rows):
        """The form for the rest of one of the streams behind one term more."""
        a, b, c, d = form
        (t, s), _ = rows
        if at == 0:
            return (a * t + c, b * t + d, a * s, b * s)
        return (a * t + b, a * s, c * t + d, c * s)

    def parts(self):
        """Two pairs of numbers that begin with what is taken, and whose next things are unlike, or None."""
        found = self.numbers_apart()
        return None if found is None else (found[0], found[1])


def plain_two(rows, x, y, many, manner="floor"):
    """The first many terms of the number that the rows make of x and y, and the word behind them."""
    need_pair_rows(rows)
    need_fractions(x, y)
    need_many(many)
    need_manner(manner)
    return told_terms(made_of(rows, [x, y]), many, manner)


def shows_pairs_apart(rows, terms, other_terms, one, other, place, manner="floor", of="floor", other_of="floor"):
    """Whether two pairs of numbers show that behind the terms the thing at the place isn't settled."""
    need_pair_rows(rows)
    for word in (manner, of, other_of):
        need_manner(word)
    if not are_numbers(terms) or not are_numbers(other_terms) or not is_whole(place, 0, LAST_PLACE):
        return False
    for pair in (one, other):
        if not is_pair(pair) or not begins_so(pair[0], terms, of) or not begins_so(pair[1], other_terms, other_of):
            return False
    return are_apart(made_of(rows, list(one)), made_of(rows, list(other)), place, manner)
