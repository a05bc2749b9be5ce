"""Digits of streams' numbers, and the fractions and texts of digits."""

from termstream.errors import NoBase, NoNumber, NoRow
from termstream.fractions import lowest
from termstream.machines import need_most
from termstream.ranges import settled_term
from termstream.streams import need_stream
from termstream.taking import Taken
from termstream.words import are_numbers, is_whole

MOST_DIGITS = 40
MOST_BASE = 36
SIGNS = "0123456789abcdefghijklmnopqrstuvwxyz"


def need_base(base):
    """Refuses what is no base of digits."""
    if not is_whole(base, 2, MOST_BASE):
        raise NoBase(base)


def floor_at(numbers, scale):
    """The floor that all numbers of a range have, each so many times; None where they haven't one."""
    if numbers is None:
        return None
    low, low_in, high, high_in = numbers
    return settled_term((low[0] * scale, low[1]), low_in, (high[0] * scale, high[1]), high_in, "floor")


def digits(stream, many, base=10, most=64):
    """Whether they are all, and the floor and the first digits, so many as the terms settle."""
    need_stream(stream)
    if not is_whole(many, 0, MOST_DIGITS):
        raise NoNumber(many)
    need_base(base)
    need_most(most)
    taken = Taken(stream)
    found = []
    scale = 1
    ahead = 0
    # The first place isn't counted.
    asks = -1
    while len(found) <= many:
        whole = floor_at(taken.numbers(), scale)
        if whole is not None:
            found.append(whole - base * ahead)
            ahead = whole
            scale *= base
            continue
        word = "open" if asks == most else taken.take()
        asks += 1
        if word in ("open", "nought"):
            return (word, found)
    return ("all", found)


def need_digits(found, base):
    """Refuses what is no base, and what is no floor with digits behind it."""
    need_base(base)
    if not are_numbers(found) or len(found) == 0:
        raise NoRow(found)
    if not all([0 <= digit < base for digit in found[1:]]):
        raise NoRow(found)


def number_of_digits(found, base=10):
    """The fraction that has these digits, and nothing behind."""
    need_digits(found, base)
    top = 0
    bottom = 1
    for digit in found:
        top = top * base + digit
        bottom *= base
    return lowest(top * base, bottom)


def digits_text(found, base=10):
    """The digits as a text: `3.14`, and `-4+.86` where the floor is below nought."""
    need_digits(found, base)
    if len(found) == 1:
        return str(found[0])
    point = "+." if found[0] < 0 else "."
    signs = "".join([SIGNS[digit] for digit in found[1:]])
    return f"{found[0]}{point}{signs}"
