"""What is a whole number, a name, a manner or a list, told of any thing."""

MANNERS = ("floor", "ceil", "near")

MOST_SIGNS = 6
MOST_FIGURES = 30


def is_number(thing):
    """Whether the thing is a whole number: True and False are none."""
    return isinstance(thing, int) and not isinstance(thing, bool)


def is_whole(thing, low, high):
    """Whether the thing is a whole number from low to high, both counted."""
    return is_number(thing) and low <= thing <= high


def is_name(thing):
    """Whether the thing is a text of one to six small letters."""
    if not isinstance(thing, str) or not 1 <= len(thing) <= MOST_SIGNS:
        return False
    return all(["a" <= sign <= "z" for sign in thing])


def number_of(text):
    """The whole number that the text writes, or None."""
    if not isinstance(text, str):
        return None
    figures = text.removeprefix("-")
    if not 1 <= len(figures) <= MOST_FIGURES:
        return None
    if not all(["0" <= sign <= "9" for sign in figures]):
        return None
    # A number is written in one way only, so neither `007` nor `-0` writes one.
    if figures[0] == "0" and text != "0":
        return None
    return int(text)


def is_manner(thing):
    """Whether the thing is one of the words of the three manners."""
    return isinstance(thing, str) and thing in MANNERS


def is_list(thing):
    """Whether the thing is a list or a tuple."""
    return isinstance(thing, (list, tuple))


def are_numbers(thing):
    """Whether the thing is a list or a tuple of whole numbers, perhaps of none."""
    return is_list(thing) and all([is_number(part) for part in thing])


def is_pair(thing):
    """Whether the thing is a tuple of two things."""
    return isinstance(thing, tuple) and len(thing) == 2
