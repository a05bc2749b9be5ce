"""Streams: rows that are told term by term, as they are asked."""

from termstream.begun import Begun
from termstream.errors import NoNumber, NoPlace, NoStream
from termstream.manners import need_manner
from termstream.words import is_whole

LAST_PLACE = 999
MOST_TERMS = 1000


class Stream:
    """What all streams stand under; each of them puts `more` otherwise."""

    def __init__(self, manner):
        need_manner(manner)
        self._manner = manner
        self._made = []
        # How the row has ended: "end" or "nought"; None as long as it hasn't.
        self._closed = None
        # What is made, as far as it was looked at.
        self._begun = Begun(manner)

    def more(self):
        """Tells the first place that isn't made: a term, the end, open or nought."""
        raise NotImplementedError("each stream tells its own places")

    def made(self):
        """The list of the terms that are made."""
        return list(self._made)

    def has(self, k):
        """Whether what stands at the place is made."""
        return k < len(self._made) or self._closed is not None

    def reach(self, k):
        """As `ask` makes and tells, but of any place, and open without bounds."""
        while not self.has(k):
            thing = self.more()
            if thing[0] == "open":
                return thing
            if thing[0] == "term":
                self._made.append(thing[1])
            else:
                self._closed = thing[0]
        if k < len(self._made):
            return ("term", self._made[k])
        return (self._closed,)

    def ask(self, k):
        """What stands at the place, made as far as it isn't yet."""
        if not is_whole(k, 0, LAST_PLACE):
            raise NoPlace(k)
        thing = self.reach(k)
        if thing[0] != "open":
            return thing
        low, high = self.bounds()
        return ("open", low, high)

    def terms(self, many):
        """The first many terms, and whether there are more, or why there aren't."""
        if not is_whole(many, 0, MOST_TERMS):
            raise NoNumber(many)
        word = "more"
        if many > 0:
            thing = self.reach(many - 1)
            if thing[0] != "term":
                word = thing[0]
        return (self._made[:many], word)

    def manner(self):
        """The manner of the row."""
        return self._manner

    def asked(self):
        """How many terms are made."""
        return len(self._made)

    def depth(self):
        """How many machines stand one behind another, this one the last."""
        return 0

    def begun(self):
        """The range of all numbers whose rows begin with what is made, or None of all."""
        for term in self._made[self._begun.length():]:
            self._begun.take(term)
        if self._closed is not None:
            self._begun.close()
        return self._begun.numbers()

    def bounds(self):
        """What bounds the numbers whose rows begin with what is made."""
        found = self.begun()
        return (None, None) if found is None else (found[0], found[2])


def need_stream(thing):
    """Refuses what is no stream."""
    if not isinstance(thing, Stream):
        raise NoStream(thing)
