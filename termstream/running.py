"""Streams of Surds."""

from termstream.errors import NoSurd
from termstream.streams import Stream
from termstream.surds import Surd


def need_surd(thing):
    """Refuses what is no Surd."""
    if not isinstance(thing, Surd):
        raise NoSurd(thing)


class Running(Stream):
    """The stream of a Surd's row in the manner `floor`."""

    def __init__(self, surd):
        need_surd(surd)
        Stream.__init__(self, "floor")
        # The number behind the terms that are made; None where the row has ended.
        self._rest = surd

    def more(self):
        """The next term of the row, or its end."""
        if self._rest is None:
            return ("end",)
        term = self._rest.floor()
        self._rest = self._rest.rest()
        return ("term", term)
