"""Machines: streams that take the terms of streams, and give those of a reckoned number."""

from math import gcd

from termstream.apart import is_nought_at_all, rests_apart
from termstream.corners import range_over, sides_of, spread_over
from termstream.errors import NoNumber, TooMany
from termstream.manners import given_rows, number_behind, taken_rows
from termstream.ranges import settled_term
from termstream.streams import Stream
from termstream.taking import settled_thing
from termstream.words import is_whole

MOST_ASKED = 64
DEEPEST = 4


def need_most(most):
    """Refuses what is no count of places that are asked for one place."""
    if not is_whole(most, 1, MOST_ASKED):
        raise NoNumber(most)


def need_depth(*streams):
    """Refuses streams behind which no machine may stand."""
    if max([stream.depth() for stream in streams]) >= DEEPEST:
        raise TooMany(DEEPEST + 1)


def plainest(rows):
    """The same rows without a common divisor, the second one's first number above nought."""
    top, bottom = rows
    common = 0
    for number in [*top, *bottom]:
        common = gcd(common, number)
    first = [number for number in bottom if number != 0]
    if first[0] < 0:
        common = -common
    return (tuple([number // common for number in top]), tuple([number // common for number in bottom]))


def mixed(rows, forms):
    """Two forms, each so many times the first one and so many times the second one."""
    top, bottom = forms
    (a, b), (c, d) = rows
    above = tuple([a * one + b * other for one, other in zip(top, bottom)])
    return (above, tuple([c * one + d * other for one, other in zip(top, bottom)]))


class Machine(Stream):
    """What machines stand under: each folds the terms of its streams into its forms."""

    def __init__(self, rows, streams, manner, most):
        Stream.__init__(self, manner)
        self._streams = list(streams)
        self._most = most
        self._depth = 1 + max([stream.depth() for stream in streams])
        self._taken = [[] for stream in streams]
        self._ended = [False for stream in streams]
        # By which its number, and by which what is left of it behind the terms
        # that it made, is reckoned of the rests of its streams.
        self._rows = rows
        self._left = rows

    def depth(self):
        """One more than the greatest depth of its streams."""
        return self._depth

    def state(self):
        """The terms taken of each stream, whether its end is, and the rows of what is left."""
        return (tuple([tuple(terms) for terms in self._taken]), tuple(self._ended), plainest(self._left))

    def sides(self):
        """The sides of the rests of each stream; None where a first term isn't taken."""
        if not all([len(terms) > 0 for terms in self._taken]):
            return None
        manners = [stream.manner() for stream in self._streams]
        return [sides_of(terms, self._ended[at], manners[at]) for at, terms in enumerate(self._taken)]

    def bounds(self):
        """What bounds the numbers that come of all rows that begin with what is taken."""
        sides = self.sides()
        if sides is None:
            return (None, None)
        found = range_over(self._rows[0], self._rows[1], sides)
        return (None, None) if found is None else (found[0], found[2])

    def next_thing(self):
        """The next thing of its row, where what is taken settles it, or None."""
        sides = self.sides()
        if sides is None:
            return None
        top, bottom = self._left
        if is_nought_at_all(bottom, sides):
            return ("end",) if len(self._made) > 0 else ("nought",)
        found = spread_over(top, bottom, sides)
        if found is None or found[0] is None or found[2] is None:
            return None
        low, low_in, high, high_in = found
        term = settled_term(low, low_in, high, high_in, self._manner)
        return None if term is None else ("term", term)

    def next_stream(self):
        """Of which of its streams it takes the next thing."""
        return 0

    def takes_behind_first(self):
        """Whether it has taken the first term of the stream that it takes of next."""
        return len(self._taken[self.next_stream()]) > 0

    def take(self):
        """Takes the next thing of a stream, and tells its word."""
        at = self.next_stream()
        thing = self._streams[at].reach(len(self._taken[at]))
        if thing[0] == "term":
            rows = taken_rows(thing[1], self._streams[at].manner())
            self._taken[at].append(thing[1])
            self._rows = tuple([self.fold(form, at, rows) for form in self._rows])
            self._left = tuple([self.fold(form, at, rows) for form in self._left])
        elif thing[0] == "end":
            self._ended[at] = True
        return thing[0]

    def fold(self, form, at, rows):
        """The form for the rest of a stream behind one term more, of which these are the rows."""
        raise NotImplementedError("machines of one stream and of two fold otherwise")

    def more(self):
        """The next thing of its row, as soon as it has taken what settles it."""
        thing = settled_thing(self, self._most)
        if thing[0] == "term":
            self._left = mixed(given_rows(thing[1], self._manner), self._left)
        return thing

    def numbers_apart(self):
        """Twice the numbers of its streams that begin with what is taken, the next things unlike; or None."""
        sides = self.sides()
        if sides is None:
            return None
        found = rests_apart(self._left, sides, self._manner)
        if found is None:
            return None
        manners = [stream.manner() for stream in self._streams]
        return [
            tuple([number_behind(self._taken[at], rest, manners[at]) for at, rest in enumerate(rests)])
            for rests in found
        ]

    def parts(self):
        """Two numbers that begin with what is taken, and whose next things are unlike, or None."""
        found = self.numbers_apart()
        return None if found is None else (found[0][0], found[1][0])
