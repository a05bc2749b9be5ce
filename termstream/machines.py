"""Machines: streams that take the terms of streams, and give those of a reckoned number."""

from math import gcd

from termstream.apart import rests_apart
from termstream.corners import range_over, sides_of
from termstream.manners import given_rows, number_behind, taken_rows
from termstream.ranges import rows_times, settled
from termstream.streams import Stream


def plainest(rows):
    """The same rows without a common divisor, the second one's first number above nought."""
    top, bottom = rows
    common = 0
    for number in [*top, *bottom]:
        common = gcd(common, number)
    first = [number for number in bottom if number != 0]
    if first[0] < 0:
        common = -common
    return (tuple([number // common for number in top]), tuple([number // common for number in bottom]))


class Machine(Stream):
    """What machines stand under. It is made of one stream; one of two puts some methods otherwise."""

    def __init__(self, rows, streams, manner, most):
        Stream.__init__(self, manner)
        self._streams = list(streams)
        self._most = most
        self._depth = 1 + max([stream.depth() for stream in streams])
        self._taken = [[] for stream in streams]
        self._ended = [False for stream in streams]
        # By which its number, and by which what is left of it behind the terms
        # that it made, is reckoned of the rests of its streams.
        self._rows = rows
        self._left = plainest(rows)

    def depth(self):
        """One more than the greatest depth of its streams."""
        return self._depth

    def state(self):
        """The terms taken of each stream, whether its end is, and the rows of what is left."""
        return (tuple([tuple(terms) for terms in self._taken]), tuple(self._ended), self._left)

    def sides(self):
        """The sides of the rests of each stream; None where a first term isn't taken."""
        if not all([len(terms) > 0 for terms in self._taken]):
            return None
        manners = [stream.manner() for stream in self._streams]
        return [sides_of(terms, self._ended[at], manners[at]) for at, terms in enumerate(self._taken)]

    def bounds(self):
        """What bounds the numbers that come of all rows that begin with what is taken."""
        sides = self.sides()
        if sides is None:
            return (None, None)
        found = range_over(self._rows[0], self._rows[1], sides)
        return (None, None) if found is None else (found[0], found[2])

    def next_thing(self):
        """The next thing of its row, where what is taken settles it, or None."""
        sides = self.sides()
        if sides is None:
            return None
        found = range_over(self._left[0], self._left[1], sides)
        if found is not None:
            low, low_in, high, high_in = found
            term = settled(low, low_in, high, high_in, self._manner)
            return None if term is None else ("term", term)
        if not all(self._ended):
            return None
        # The one bottom is nought: the row has ended, or there is no number.
        return ("end",) if len(self._made) > 0 else ("nought",)

    def next_stream(self):
        """Of which of its streams it takes the next thing."""
        return 0

    def fold(self, rows, at, term):
        """The rows for the rest of a stream behind one term more."""
        return rows_times(rows, taken_rows(term, self._streams[at].manner()))

    def take(self, at):
        """Takes the next thing of a stream, and tells its word."""
        thing = self._streams[at].reach(len(self._taken[at]))
        if thing[0] == "term":
            self._taken[at].append(thing[1])
            self._rows = self.fold(self._rows, at, thing[1])
            self._left = plainest(self.fold(self._left, at, thing[1]))
        elif thing[0] == "end":
            self._ended[at] = True
        return thing[0]

    def more(self):
        """The next thing of its row, as soon as it has taken what settles it."""
        asks = 0
        thing = self.next_thing()
        while thing is None:
            at = self.next_stream()
            if len(self._taken[at]) > 0:
                if asks == self._most:
                    return ("open",)
                asks += 1
            word = self.take(at)
            if word in ("open", "nought"):
                return (word,)
            thing = self.next_thing()
        if thing[0] == "term":
            self._left = plainest(rows_times(given_rows(thing[1], self._manner), self._left))
        return thing

    def parts(self):
        """Two numbers that begin with what is taken, and whose next things are unlike, or None."""
        sides = self.sides()
        if sides is None or all(self._ended):
            return None
        found = rests_apart(self._left, sides[0], self._manner)
        if found is None:
            return None
        terms, manner = self._taken[0], self._streams[0].manner()
        return (number_behind(terms, found[0], manner), number_behind(terms, found[1], manner))
