"""What forms make of the rests of streams: their ranges over one cone, or over two."""

from termstream.cones import cone_behind
from termstream.fractions import lowest

# The rest of a row that has ended is 1 / 0.
END = ((1, 0), True)


def sides_of(terms, ended, manner):
    """The sides of the rests behind a beginning, or of its end alone."""
    return [END] if ended else list(cone_behind(terms, manner))


def form_at(form, vectors):
    """What the form is at one vector, or at two."""
    if len(vectors) == 1:
        a, b = form
        p, q = vectors[0]
        return a * p + b * q
    a, b, c, d = form
    (p, q), (r, s) = vectors
    return a * p * r + b * p * s + c * q * r + d * q * s


def faces_of(sides):
    """The parts of a cone, its inside first: each by the vectors between which it lies."""
    inside = [side[0] for side in sides]
    if len(sides) == 1:
        return [inside]
    return [inside] + [[side[0]] for side in sides if side[1]]


def faces_over(sides):
    """The parts of all cones together, the inside first: each by the list of its corners."""
    faces = [[[]]]
    for listed in sides:
        parts = faces_of(listed)
        faces = [[[*corner, vector] for corner in face for vector in part] for face in faces for part in parts]
    return faces


def has_nought(faces):
    """Whether the bottom is nought at a sum.

    A part has sums of all its corners, each taken more than no time. So a bottom
    is nought within it where it is at all corners, or is of either sign at two.
    """
    bottoms = [corner[1] for corner in faces[0]]
    if min(bottoms) < 0 < max(bottoms):
        return True
    return not all([any([corner[1] != 0 for corner in face]) for face in faces])


def is_reached(number, faces):
    """Whether the least or the greatest number is one of the parts' own."""
    # Within a part it is reached just where all corners have it; one at which top
    # and bottom are nought has any number.
    return any([all([top * number[1] == number[0] * bottom for top, bottom in face]) for face in faces])


def extremes(numbers):
    """The least and the greatest one of tuples (top, bottom), each bottom above nought."""
    low = high = numbers[0]
    for top, bottom in numbers[1:]:
        if top * low[1] < low[0] * bottom:
            low = (top, bottom)
        if top * high[1] > high[0] * bottom:
            high = (top, bottom)
    return (low, high)


def spread_over(top, bottom, sides):
    """The range of top over bottom, of all sums of the sides' vectors; None where a bottom is nought.

    An end is a top and a bottom above nought, not reduced, or None where there the
    numbers have no bound.
    """
    faces = [[(form_at(top, corner), form_at(bottom, corner)) for corner in face] for face in faces_over(sides)]
    if has_nought(faces):
        return None
    if min([below for _, below in faces[0]]) < 0:
        faces = [[(-above, -below) for above, below in face] for face in faces]
    low, high = extremes([corner for corner in faces[0] if corner[1] != 0])
    # Next to a corner at which the bottom alone is nought there is no bound.
    free = [above for above, below in faces[0] if below == 0]
    low_in = is_reached(low, faces)
    high_in = is_reached(high, faces)
    if free and min(free) < 0:
        low, low_in = None, False
    if free and max(free) > 0:
        high, high_in = None, False
    return (low, low_in, high, high_in)


def range_over(top, bottom, sides):
    """The range of top over bottom, of all sums of the sides' vectors, or None."""
    found = spread_over(top, bottom, sides)
    if found is None:
        return None
    low, low_in, high, high_in = found
    if low is None or high is None:
        return None
    return (lowest(low[0], low[1]), low_in, lowest(high[0], high[1]), high_in)
