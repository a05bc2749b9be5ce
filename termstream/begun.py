"""The numbers whose rows begin with the terms that are known by now."""

from termstream.cones import cone_behind
from termstream.fractions import lowest
from termstream.manners import taken_rows
from termstream.ranges import range_of, rows_times


class Begun:
    """Terms of a row in a manner, of which one more may be taken, or the end."""

    def __init__(self, manner):
        self._manner = manner
        self._terms = []
        self._ended = False
        # The product of the rows of all terms.
        self._turn = ((1, 0), (0, 1))

    def terms(self):
        """The list of the terms."""
        return list(self._terms)

    def length(self):
        """How many terms there are."""
        return len(self._terms)

    def turn(self):
        """The product of the rows of all terms."""
        return self._turn

    def take(self, term):
        """One term more."""
        self._terms.append(term)
        self._turn = rows_times(self._turn, taken_rows(term, self._manner))

    def close(self):
        """No term more: the row has ended."""
        self._ended = True

    def numbers(self):
        """The range of all numbers whose rows begin so, or None of all numbers."""
        if len(self._terms) == 0:
            return None
        if self._ended:
            number = lowest(self._turn[0][0], self._turn[1][0])
            return (number, True, number, True)
        return range_of(self._turn, cone_behind(self._terms, self._manner))
