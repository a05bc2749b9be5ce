"""The neighbours of a stream's number, as soon as its terms settle them."""

from termstream.between import between
from termstream.errors import NoNumber
from termstream.nearest import neighbours
from termstream.streams import need_stream
from termstream.words import is_whole

MOST_BOUND = 10 ** 12
MOST_ASKED = 64


def settled_neighbours(begun, bound):
    """The neighbours of all numbers of the range, or None where two have unlike ones."""
    if begun is None:
        return None
    low, low_in, high, high_in = begun
    least = between(low, high, low_in, high_in)
    # Two numbers have the same neighbours where no fraction of such a bottom lies
    # between them, or is one of them.
    if low != high and least[1] <= bound:
        return None
    return neighbours(least, bound)


def neighbours_of(stream, bound):
    """The greatest fraction not above the stream's number, and the least not below it."""
    need_stream(stream)
    if not is_whole(bound, 1, MOST_BOUND):
        raise NoNumber(bound)
    asks = 0
    found = settled_neighbours(stream.begun(), bound)
    word = "term"
    while found is None and word == "term" and asks < MOST_ASKED:
        word = stream.reach(stream.asked())[0]
        asks += 1
        found = settled_neighbours(stream.begun(), bound)
    if found is not None:
        return ("told", found[0], found[1])
    if word == "nought":
        return ("nought",)
    low, high = stream.bounds()
    return ("open", low, high)
