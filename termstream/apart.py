"""Two rests of one stream of which a machine's next things are unlike."""

from termstream.corners import form_at, range_over
from termstream.fractions import lowest
from termstream.ranges import parted, settled


def sum_of(one, other, times=1):
    """The one vector, so many times, and the other one together."""
    return (times * one[0] + other[0], times * one[1] + other[1])


def where_nought(bottom, sides):
    """The rest in the cone at which the form is nought, or None."""
    (one, one_in), (other, other_in) = sides
    at_one = form_at(bottom, [one])
    at_other = form_at(bottom, [other])
    if at_one == 0:
        return one if one_in else None
    if at_other == 0:
        return other if other_in else None
    if (at_one > 0) == (at_other > 0):
        return None
    return sum_of(one, (abs(at_one) * other[0], abs(at_one) * other[1]), abs(at_other))


def where_not_nought(bottom, sides):
    """A rest within the cone at which the form isn't nought."""
    (one, _), (other, _) = sides
    rest = sum_of(one, other)
    return rest if form_at(bottom, [rest]) != 0 else sum_of(one, other, 2)


def spread(rows, sides):
    """The range of what the rows make of the cone's rests; an end is None without a bound.

    The bottom is nought at no rest, perhaps at a side that isn't in.
    """
    top, bottom = rows
    found = range_over(top, bottom, [sides])
    if found is not None:
        return found
    (far, _), (near, near_in) = sides
    if form_at(bottom, [far]) != 0:
        (near, near_in), (far, _) = sides
    below = form_at(bottom, [near])
    end = lowest(form_at(top, [near]), below)
    # Towards the far side the bottom keeps its sign as it comes to nought.
    if (form_at(top, [far]) > 0) == (below > 0):
        return (end, near_in, None, False)
    return (None, False, end, near_in)


def rest_for(rows, number):
    """The rest of which the rows make the number."""
    (a, b), (c, d) = rows
    top, bottom = number
    return (d * top - b * bottom, a * bottom - c * top)


def rests_apart(rows, sides, manner):
    """Two rests of which the rows make unlike next things, or None where all are alike."""
    nought = where_nought(rows[1], sides)
    if nought is not None:
        return (nought, where_not_nought(rows[1], sides))
    low, low_in, high, high_in = spread(rows, sides)
    if low is not None and high is not None and settled(low, low_in, high, high_in, manner) is not None:
        return None
    one, other = parted(low, low_in, high, high_in, manner)
    return (rest_for(rows, one), rest_for(rows, other))
