"""A plain reckoning of the bounds of a net's number."""

from math import isqrt

from termstream.begun import Begun
from termstream.corners import extremes, form_at
from termstream.errors import NoNumber
from termstream.fractions import lowest
from termstream.words import is_whole

DEEPEST = 60
# Roots are told by whole parts of one over this.
FINENESS = 10 ** 30


def stream_bounds(stream, deep):
    """What bounds the numbers whose rows begin with the stream's first deep terms, or None."""
    terms, word = stream.terms(deep)
    begun = Begun(stream.manner())
    for term in terms:
        begun.take(term)
    # Where there are fewer terms, and no more, they are the whole row.
    if word == "end":
        begun.close()
    numbers = begun.numbers()
    return None if numbers is None else (numbers[0], numbers[2])


def corner_bounds(rows, sources):
    """What bounds the values at the corners of the bounds that a machine stands on, or None."""
    corners = [[]]
    for bounds in sources:
        if bounds is None:
            return None
        corners = [[*corner, end] for corner in corners for end in bounds]
    values = [(form_at(rows[0], corner), form_at(rows[1], corner)) for corner in corners]
    bottoms = [bottom for _, bottom in values]
    if min(bottoms) <= 0 <= max(bottoms):
        return None
    low, high = extremes([lowest(top, bottom) for top, bottom in values])
    return (low, high)


def scaled_root(fraction):
    """The floor of the fraction's root, so fine as roots are told."""
    top, bottom = fraction
    return isqrt(top * FINENESS * FINENESS // bottom)


def root_bounds(bounds):
    """What bounds the roots of the numbers that are bounded so, or None where they have none."""
    if bounds is None or bounds[1][0] < 0:
        return None
    low, high = bounds
    least = 0 if low[0] < 0 else scaled_root(low)
    greatest = scaled_root(high)
    # The greater one is one more, but where it is just the root.
    if greatest * greatest * high[1] != high[0] * FINENESS * FINENESS:
        greatest += 1
    return (lowest(least, FINENESS), lowest(greatest, FINENESS))


def bounds_by(net, name, deep):
    """As `reckoned` tells."""
    way = net.way(name)
    if way[0] == "root":
        return root_bounds(bounds_by(net, way[1], deep))
    if way[0] == "one":
        return corner_bounds(way[2], [bounds_by(net, way[1], deep)])
    if way[0] == "two":
        return corner_bounds(way[3], [bounds_by(net, way[1], deep), bounds_by(net, way[2], deep)])
    return stream_bounds(net.stream(name), deep)


def reckoned(net, name, deep):
    """What bounds the number of the name, by deep terms of each stream that isn't a machine of names; or None."""
    net.need(name)
    if not is_whole(deep, 1, DEEPEST):
        raise NoNumber(deep)
    return bounds_by(net, name, deep)
