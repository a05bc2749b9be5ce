"""Streams of rows that are known, that go on by a rule, that are fed, and of others' ends."""

from termstream.errors import Finished, NoPlace, NoRound, NoRow, NoTerm, TooMany
from termstream.manners import is_beginning, is_row, may_end, may_follow, need_manner
from termstream.streams import LAST_PLACE, Stream, need_stream
from termstream.words import are_numbers, is_whole

LONGEST_ROUND = 20
MOST_FED = 100


class Row(Stream):
    """The stream of a row that ends."""

    def __init__(self, terms, manner="floor"):
        if not is_row(terms, manner):
            raise NoRow(terms)
        Stream.__init__(self, manner)
        self._row = list(terms)

    def more(self):
        """The next term of the row, or its end."""
        k = len(self._made)
        return ("term", self._row[k]) if k < len(self._row) else ("end",)


def need_round(round_terms, steps):
    """Refuses what is no round, and what are no steps for it."""
    if not are_numbers(round_terms) or not 1 <= len(round_terms) <= LONGEST_ROUND:
        raise NoRound(round_terms)
    if steps is None:
        return
    if not are_numbers(steps) or len(steps) != len(round_terms):
        raise NoRound(steps)


def grows(term, step):
    """Whether the step leads the term away from nought, or leaves it."""
    return step == 0 or (term > 0 and step > 0) or (term < 0 and step < 0)


def goes_on(terms, round_terms, steps, manner):
    """Whether there is a number whose row goes on with the round again and again."""
    if not all([grows(term, step) for term, step in zip(round_terms, steps)]):
        return False
    # No term comes nearer to nought than in the first round, so what may stand
    # there, and between it and the next round, may stand everywhere.
    again = [term + step for term, step in zip(round_terms, steps)]
    if not is_beginning([*terms, *round_terms, *again], manner):
        return False
    stays = all([step == 0 for step in steps])
    # In `ceil` twos without end come to a whole number, whose row ends ahead of them.
    return manner != "ceil" or not stays or any([term != 2 for term in round_terms])


class Ruled(Stream):
    """The stream of first terms and a round that comes again, each time by its steps greater."""

    def __init__(self, terms, round_terms, steps=None, manner="floor"):
        need_manner(manner)
        if not is_beginning(terms, manner) or len(terms) == 0:
            raise NoRow(terms)
        need_round(round_terms, steps)
        taken_steps = [0] * len(round_terms) if steps is None else list(steps)
        if not goes_on(terms, round_terms, taken_steps, manner):
            raise NoRound(round_terms)
        Stream.__init__(self, manner)
        self._ahead = list(terms)
        self._round = list(round_terms)
        self._steps = taken_steps

    def more(self):
        """The next one of the first terms, or of the rounds."""
        k = len(self._made)
        if k < len(self._ahead):
            return ("term", self._ahead[k])
        times, at = divmod(k - len(self._ahead), len(self._round))
        return ("term", self._round[at] + times * self._steps[at])


class Fed(Stream):
    """A stream whose terms are fed to it one by one, until it is finished."""

    def __init__(self, manner="floor"):
        Stream.__init__(self, manner)
        self._fed = []
        self._finished = False

    def feed(self, term):
        """One term more."""
        if self._finished:
            raise Finished(term)
        if not may_follow(self._fed, term, self._manner):
            raise NoTerm(term)
        if len(self._fed) == MOST_FED:
            raise TooMany(MOST_FED + 1)
        self._fed.append(term)

    def finish(self):
        """No term more: the row ends behind those that are fed."""
        if self._finished:
            raise Finished(list(self._fed))
        if not may_end(self._fed, self._manner):
            raise NoTerm(self._fed[-1] if self._fed else None)
        self._finished = True

    def length(self):
        """How many terms are fed."""
        return len(self._fed)

    def more(self):
        """The next term that is fed, or the end; open where neither is known."""
        k = len(self._made)
        if k < len(self._fed):
            return ("term", self._fed[k])
        return ("end",) if self._finished else ("open",)


class Tail(Stream):
    """The stream of another one's row from a place on."""

    def __init__(self, stream, place):
        need_stream(stream)
        if not is_whole(place, 0, LAST_PLACE):
            raise NoPlace(place)
        Stream.__init__(self, stream.manner())
        self._stream = stream
        self._place = place
        self._depth = stream.depth()

    def depth(self):
        """The other one's depth."""
        return self._depth

    def within(self, place):
        """What the other one tells of its place.

        Tails may stand within one another without bound. So the innermost stream
        is asked first, and the Tails take over what it tells from there outwards:
        then no call stands within many others.
        """
        tails = []
        inner = self._stream
        at = place
        while isinstance(inner, Tail) and not inner.has(at):
            tails.append((inner, at))
            at += inner._place
            inner = inner._stream
        thing = inner.reach(at)
        for tail, wanted in reversed(tails):
            # What is open isn't asked twice: ahead of it stand these places, and no more.
            last = tail._stream.asked() - tail._place - 1 if thing[0] == "open" else wanted
            if last >= 0:
                tail.reach(last)
        return thing if thing[0] == "open" else self._stream.reach(place)

    def more(self):
        """What the other one tells; nought where it ends ahead of the first place, or at it."""
        thing = self.within(self._place + len(self._made))
        if thing[0] == "end" and len(self._made) == 0:
            return ("nought",)
        return thing
