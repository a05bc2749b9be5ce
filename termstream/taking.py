"""How what takes terms of streams takes them, and no more of them than are needed."""

from termstream.begun import Begun


class Taken:
    """What is taken of a stream, place by place from the first one on."""

    def __init__(self, stream):
        self._stream = stream
        self._begun = Begun(stream.manner())

    def terms(self):
        """The list of the terms that are taken."""
        return self._begun.terms()

    def length(self):
        """How many terms are taken."""
        return self._begun.length()

    def numbers(self):
        """The range of all numbers that begin with what is taken, or None of all numbers."""
        return self._begun.numbers()

    def take(self):
        """Takes the next thing of the stream, and tells its word."""
        thing = self._stream.reach(self._begun.length())
        if thing[0] == "term":
            self._begun.take(thing[1])
        elif thing[0] == "end":
            self._begun.close()
        return thing[0]

    def is_nought(self):
        """Whether the stream is known by now to have no number."""
        many = self._begun.length()
        return self._stream.has(many) and self._stream.reach(many) == ("nought",)


def settled_thing(taker, most):
    """The taker's next thing, as soon as it has taken what settles it, or why there is none.

    It takes at most so many things, those of first places not counted.
    """
    asks = 0
    thing = taker.next_thing()
    while thing is None:
        if taker.takes_behind_first():
            if asks == most:
                return ("open",)
            asks += 1
        word = taker.take()
        if word in ("open", "nought"):
            return (word,)
        thing = taker.next_thing()
    return thing
