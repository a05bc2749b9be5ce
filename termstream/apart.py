"""Rests of one stream or of two of which a machine's next things are unlike."""

from termstream.corners import form_at, spread_over
from termstream.fractions import lowest
from termstream.ranges import parted, settled_term


def sum_of(one, other, times=1):
    """The one vector, so many times, and the other one together."""
    return (times * one[0] + other[0], times * one[1] + other[1])


def within(sides):
    """Two vectors amid the sides, or the one that there is."""
    if len(sides) == 1:
        return [sides[0][0]]
    (one, _), (other, _) = sides
    return [sum_of(one, other), sum_of(one, other, 2)]


def crossing(form, one, other):
    """The vector between two at which the form of one vector is nought, or None."""
    at_one = form_at(form, [one])
    at_other = form_at(form, [other])
    if at_one == 0 and at_other == 0:
        return sum_of(one, other)
    if not min(at_one, at_other) < 0 < max(at_one, at_other):
        return None
    return sum_of(one, (abs(at_one) * other[0], abs(at_one) * other[1]), abs(at_other))


def nought_on(form, sides):
    """A vector of the sides' sums at which the form of one vector is nought, or None."""
    ends = [side[0] for side in sides if side[1]]
    if len(sides) == 2:
        found = crossing(form, sides[0][0], sides[1][0])
        if found is not None:
            return found
    for end in ends:
        if form_at(form, [end]) == 0:
            return end
    return None


def samples(form, sides, others):
    """Vectors of the first sides; if the form is nought with any of them, it is with one of these."""
    if len(sides) == 1:
        return [sides[0][0]]
    a, b, c, d = form
    points = [sides[0][0], sides[1][0]]
    for (r, s), _ in others:
        point = crossing((a * r + b * s, c * r + d * s), sides[0][0], sides[1][0])
        if point is not None:
            points.append(point)
    # Between two such points next to each other the signs at the others' corners
    # stay the same, and one of the sums lies there.
    sums = [sum_of(one, other) for at, one in enumerate(points) for other in points[:at]]
    return [side[0] for side in sides if side[1]] + points[2:] + sums


def nought_at(form, listed):
    """The rests, one of each stream, at which the form is nought, or None."""
    if len(listed) == 1:
        found = nought_on(form, listed[0])
        return None if found is None else [found]
    a, b, c, d = form
    for p, q in samples(form, listed[0], listed[1]):
        found = nought_on((a * p + c * q, b * p + d * q), listed[1])
        if found is not None:
            return [(p, q), found]
    return None


def not_nought_at(form, listed):
    """Rests, one of each stream, at which the form isn't nought, or None."""
    # A form that is nought at all of these is so at all rests.
    choices = [[]]
    for sides in listed:
        choices = [[*vectors, vector] for vectors in choices for vector in within(sides)]
    for vectors in choices:
        if form_at(form, vectors) != 0:
            return vectors
    return None


def is_nought_at_all(form, listed):
    """Whether the form is nought at all rests."""
    return not_nought_at(form, listed) is None


def rests_for(rows, number, listed):
    """The rests of which the rows make the number."""
    above, below = number
    return nought_at([below * a - above * b for a, b in zip(rows[0], rows[1])], listed)


def reduced(end):
    """An end of a range as a fraction, or None."""
    return None if end is None else lowest(end[0], end[1])


def rests_apart(rows, listed, manner):
    """Twice the rests of which the rows make unlike next things, or None where all are alike.

    The sides of the rests are listed, those of each stream.
    """
    nought = nought_at(rows[1], listed)
    if nought is not None:
        other = not_nought_at(rows[1], listed)
        return None if other is None else (nought, other)
    low, low_in, high, high_in = spread_over(rows[0], rows[1], listed)
    if low is not None and high is not None and settled_term(low, low_in, high, high_in, manner) is not None:
        return None
    one, other = parted(reduced(low), low_in, reduced(high), high_in, manner)
    return (rests_for(rows, one, listed), rests_for(rows, other, listed))
