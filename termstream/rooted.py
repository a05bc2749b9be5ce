"""Roots: of fractions, and of the numbers that streams tell."""

from termstream.between import between
from termstream.cones import cone_behind
from termstream.errors import NoNumber, NoRow
from termstream.fractions import lowest, need_fractions
from termstream.machines import need_depth, need_most
from termstream.manners import need_beginning, need_manner, taken_rows
from termstream.ones import begins_so
from termstream.ranges import range_of, rows_times
from termstream.streams import Stream, need_stream
from termstream.surds import Surd
from termstream.taking import Taken, settled_thing
from termstream.words import are_numbers, is_pair, is_whole

MOST_ROOT_TERMS = 60
NOUGHT = (0, 1)


def root_of(fraction):
    """The root of a fraction that isn't below nought, a Surd."""
    top, bottom = fraction
    return Surd(0, top * bottom, bottom)


def root_terms(fraction, many):
    """The first many terms of the root's row, and whether they are all of it."""
    rest = root_of(fraction)
    found = []
    while rest is not None and len(found) < many:
        found.append(rest.floor())
        rest = rest.rest()
    return (found, rest is None)


def root_row(fraction, many):
    """The first many terms of the root's row, and the word behind them."""
    need_fractions(fraction)
    if not is_whole(many, 0, MOST_ROOT_TERMS):
        raise NoNumber(many)
    if fraction[0] < 0:
        return ([], "nought")
    found, ended = root_terms(fraction, many)
    return (found, "end" if ended else "more")


def need_numbers(thing):
    """Refuses what is no list of whole numbers."""
    if not are_numbers(thing):
        raise NoRow(thing)


def root_next(fraction, given):
    """What stands behind the given terms in the root's row, or None where it begins otherwise."""
    need_fractions(fraction)
    need_numbers(given)
    if fraction[0] < 0:
        return ("nought",)
    many = len(given)
    found, _ = root_terms(fraction, many + 1)
    if found[:many] != list(given):
        return None
    return ("end",) if len(found) == many else ("term", found[many])


def root_rest(fraction, turn):
    """What is left of the root behind terms with this turn, a Surd; None where it is their number."""
    (a, b), (c, d) = turn
    top, bottom = fraction
    # (d * root - b) / (a - c * root), times a + c * root above and below.
    below = a * a * bottom - c * c * top
    if below == 0:
        return None
    side = a * d - b * c
    return Surd(side * (c * d * top - a * b * bottom), top * bottom, side * below)


class Rooted(Stream):
    """The stream of the root of another one's number."""

    def __init__(self, stream, most=40):
        need_stream(stream)
        need_most(most)
        need_depth(stream)
        Stream.__init__(self, "floor")
        self._most = most
        self._depth = stream.depth() + 1
        self._taken = Taken(stream)
        # The product of the rows of the terms that it made.
        self._given = ((1, 0), (0, 1))

    def depth(self):
        """One more than its stream's."""
        return self._depth

    def taken(self):
        """The list of the terms that it has taken."""
        return self._taken.terms()

    def thing_of(self, number):
        """What stands behind the terms that it made, in the root's row of a number that it may be."""
        if number[0] < 0:
            return ("nought",)
        rest = root_rest(number, self._given)
        return ("end",) if rest is None else ("term", rest.floor())

    def squares_with(self, term):
        """The range of all numbers whose roots go on with the term behind those that it made."""
        turn = rows_times(self._given, taken_rows(term))
        low, low_in, high, high_in = range_of(turn, cone_behind([*self._made, term], "floor"))
        return (squared(low), low_in, squared(high), high_in)

    def next_thing(self):
        """The next thing of its row, where what is taken settles it, or None."""
        numbers = self._taken.numbers()
        if numbers is None:
            return None
        low, _, high, high_in = numbers
        thing = self.thing_of(amid(numbers))
        if low == high:
            return thing
        if low[0] < 0:
            return None if has_from_nought(high, high_in) else thing
        # Amid the range no root ends here: the row that does is at an end of all that begin so.
        return thing if holds(self.squares_with(thing[1]), numbers) else None

    def apart(self, numbers):
        """Two numbers of the range whose roots go on otherwise."""
        low, low_in, high, high_in = numbers
        if low[0] < 0:
            return (between(low, NOUGHT, low_in, False), between(NOUGHT, high, True, high_in))
        one = amid(numbers)
        least, least_in, greatest, greatest_in = self.squares_with(self.thing_of(one)[1])
        if not starts_no_earlier(low, low_in, least, least_in):
            return (one, between(low, least, low_in, not least_in))
        return (one, between(greatest, high, not greatest_in, high_in))

    def takes_behind_first(self):
        """Whether it has taken its stream's first term."""
        return self._taken.length() > 0

    def take(self):
        """Takes the next thing of its stream, and tells its word."""
        return self._taken.take()

    def more(self):
        """The next thing of its row, as soon as it has taken what settles it."""
        thing = settled_thing(self, self._most)
        if thing[0] == "term":
            self._given = rows_times(self._given, taken_rows(thing[1]))
        return thing

    def parts(self):
        """Two numbers that begin with what is taken, and whose roots go on otherwise, or None."""
        numbers = self._taken.numbers()
        if numbers is None:
            return None if self._taken.is_nought() else (NOUGHT, (1, 1))
        return None if self.next_thing() is not None else self.apart(numbers)


def squared(number):
    """The fraction times itself, which has no common divisor either."""
    return (number[0] * number[0], number[1] * number[1])


def amid(numbers):
    """A fraction amid the range, or the one that there is."""
    low, _, high, _ = numbers
    return lowest(low[0] + high[0], low[1] + high[1])


def has_from_nought(high, high_in):
    """Whether a range that has numbers below nought has others as well."""
    return high[0] > 0 or (high[0] == 0 and high_in)


def starts_no_earlier(low, low_in, least, least_in):
    """Whether the one low end leaves in no number that the other one leaves out."""
    side = low[0] * least[1] - least[0] * low[1]
    return side > 0 or (side == 0 and (least_in or not low_in))


def ends_no_later(high, high_in, greatest, greatest_in):
    """Whether the one high end leaves in no number that the other one leaves out."""
    side = high[0] * greatest[1] - greatest[0] * high[1]
    return side < 0 or (side == 0 and (greatest_in or not high_in))


def holds(squares, numbers):
    """Whether all numbers of the one range are in the other one."""
    low, low_in, high, high_in = numbers
    least, least_in, greatest, greatest_in = squares
    return starts_no_earlier(low, low_in, least, least_in) and ends_no_later(high, high_in, greatest, greatest_in)


def shows_root_parts(taken, given, thing, manner="floor"):
    """Whether the thing is two fractions that begin with what is taken, and whose roots go on otherwise."""
    need_manner(manner)
    need_beginning(taken, manner)
    need_numbers(given)
    if not is_pair(thing) or not all([begins_so(part, taken, manner) for part in thing]):
        return False
    one, other = [root_next(part, given) for part in thing]
    return one is not None and other is not None and one != other
