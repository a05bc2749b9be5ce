"""Where the rows of two streams part."""

from termstream.errors import NoManner, NoNumber
from termstream.streams import need_stream
from termstream.words import is_whole

MOST_COMPARED = 100


def need_floor_stream(thing):
    """Refuses what is no stream, and a stream of another manner than `floor`."""
    need_stream(thing)
    if thing.manner() != "floor":
        raise NoManner(thing.manner())


def parted_at(thing, other_thing, place):
    """What is told of the things at a place, or None where both have the same term."""
    words = (thing[0], other_thing[0])
    if "nought" in words:
        return ("nought",)
    if "open" in words:
        return ("open", place)
    if thing == other_thing:
        return ("same",) if thing[0] == "end" else None
    # An end stands above each term.
    less = thing[0] == "term" and (other_thing[0] == "end" or thing[1] < other_thing[1])
    # Behind each term stands one over what follows, which turns the order about.
    if place & 1:
        less = not less
    return ("less" if less else "more", place)


def compare(one, other, most=40):
    """At which place the rows part, and how the first one's number stands to the other one's."""
    need_floor_stream(one)
    need_floor_stream(other)
    if not is_whole(most, 1, MOST_COMPARED):
        raise NoNumber(most)
    for place in range(most):
        thing = one.reach(place)
        found = parted_at(thing, other.reach(place), place)
        if found is not None:
            return found
    return ("open", most)
