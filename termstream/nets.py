"""Nets: streams by names, and machines of the streams of names."""

from termstream.errors import Doubled, NoBack, NoName, NoNumber, NotInNet, TooMany
from termstream.ones import One
from termstream.rooted import Rooted
from termstream.running import Running, need_surd
from termstream.streams import MOST_TERMS, need_stream
from termstream.twos import Two
from termstream.words import is_name, is_whole

MOST_NAMES = 12


def need_name(thing):
    """Refuses what is no name."""
    if not is_name(thing):
        raise NoName(thing)


class Net:
    """Streams by names, in the order in which they were put in, each read from a place on."""

    def __init__(self):
        self._streams = {}
        self._ways = {}
        self._places = {}
        # What can be taken back: ("put", name), or ("read", name, the place before it).
        self._done = []

    def __len__(self):
        return len(self._streams)

    def keep(self, name, stream, way):
        """Puts in a stream, and the way in which it is put in."""
        if name in self._streams:
            raise Doubled(name)
        if len(self._streams) == MOST_NAMES:
            raise TooMany(MOST_NAMES + 1)
        self._streams[name] = stream
        self._ways[name] = way
        self._places[name] = 0
        self._done.append(("put", name))

    def put(self, name, stream):
        """Puts in the very stream."""
        need_name(name)
        need_stream(stream)
        self.keep(name, stream, ("stream",))

    def put_surd(self, name, surd):
        """Puts in the Running of the Surd."""
        need_name(name)
        need_surd(surd)
        p, d, q = surd.told()
        self.keep(name, Running(surd), ("surd", p, d, q))

    def put_one(self, name, source, rows, manner="floor", most=40):
        """Puts in a One of the stream of a name."""
        need_name(name)
        stream = self.stream(source)
        self.keep(name, One(rows, stream, manner, most), ("one", source, rows, manner, most))

    def put_two(self, name, one, other, rows, manner="floor", most=40):
        """Puts in a Two of the streams of two names."""
        need_name(name)
        first = self.stream(one)
        second = self.stream(other)
        self.keep(name, Two(rows, first, second, manner, most), ("two", one, other, rows, manner, most))

    def put_root(self, name, source, most=40):
        """Puts in a Rooted of the stream of a name."""
        need_name(name)
        stream = self.stream(source)
        self.keep(name, Rooted(stream, most), ("root", source, most))

    def need(self, name):
        """Refuses what is no name that stands here."""
        if not is_name(name) or name not in self._streams:
            raise NotInNet(name)

    def names(self):
        """The names in their order."""
        return list(self._streams)

    def stream(self, name):
        """The very stream of the name."""
        self.need(name)
        return self._streams[name]

    def way(self, name):
        """How the name's stream was put in."""
        self.need(name)
        return self._ways[name]

    def counts(self):
        """How many terms the stream of each name has made."""
        return {name: stream.asked() for name, stream in self._streams.items()}

    def ask(self, name, k):
        """What the name's stream tells of the place."""
        return self.stream(name).ask(k)

    def place(self, name):
        """From which place on the name is read."""
        self.need(name)
        return self._places[name]

    def read(self, name, many=1):
        """The next many terms of the name, and the word behind them."""
        place = self.place(name)
        if not is_whole(many, 1, MOST_TERMS - place):
            raise NoNumber(many)
        terms, word = self._streams[name].terms(place + many)
        self._done.append(("read", name, place))
        self._places[name] = len(terms)
        return (terms[place:], word)

    def undo(self):
        """Takes back the last reading or putting in."""
        if len(self._done) == 0:
            raise NoBack()
        done = self._done.pop()
        name = done[1]
        if done[0] == "read":
            self._places[name] = done[2]
        else:
            del self._streams[name]
            del self._ways[name]
            del self._places[name]
        return (done[0], name)
