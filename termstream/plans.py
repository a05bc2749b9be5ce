"""Plans: how nets are put together, and the texts of it."""

from termstream.errors import NoLine, NoText
from termstream.words import are_numbers, is_list, is_manner, is_name, is_number, is_whole, number_of

MOST_ROWS = 12
MOST_TERMS = 100
LONGEST_ROUND = 20
MOST_ASKED = 64
# Whole numbers of at most thirty figures lie below it.
BEYOND = 10 ** 30
# What stands behind the word of a row, thing by thing.
SHAPES = {
    "row": ("name", "manner", "terms"),
    "ruled": ("name", "manner", "terms", "round", "steps"),
    "fed": ("name", "manner"),
    "surd": ("name", "number", "number", "number"),
    "one": ("name", "name", "manner", "most", "twos"),
    "two": ("name", "name", "name", "manner", "most", "fours"),
    "root": ("name", "name", "most"),
}


def is_plan_number(thing):
    """Whether the thing is a whole number of at most thirty figures."""
    return is_number(thing) and abs(thing) < BEYOND


def are_plan_numbers(thing, least, most):
    """Whether the thing is a tuple of so many such numbers."""
    if not isinstance(thing, tuple) or not least <= len(thing) <= most:
        return False
    return are_numbers(thing) and all([is_plan_number(part) for part in thing])


def are_plan_rows(thing, many):
    """Whether the thing is a tuple of two tuples of so many such numbers each."""
    if not isinstance(thing, tuple) or len(thing) != 2:
        return False
    return are_plan_numbers(thing[0], many, many) and are_plan_numbers(thing[1], many, many)


def fits(kind, thing):
    """Whether the thing is of a kind that stands in rows."""
    if kind == "name":
        return is_name(thing)
    if kind == "manner":
        return is_manner(thing)
    if kind == "number":
        return is_plan_number(thing)
    if kind == "most":
        return is_whole(thing, 1, MOST_ASKED)
    if kind == "terms":
        return are_plan_numbers(thing, 1, MOST_TERMS)
    if kind == "steps" and thing is None:
        return True
    if kind in ("round", "steps"):
        return are_plan_numbers(thing, 1, LONGEST_ROUND)
    return are_plan_rows(thing, 2 if kind == "twos" else 4)


def is_plan_row(thing):
    """Whether the thing has the form of a row."""
    if not isinstance(thing, tuple) or len(thing) == 0:
        return False
    if not isinstance(thing[0], str) or thing[0] not in SHAPES:
        return False
    shape = SHAPES[thing[0]]
    if len(thing) != 1 + len(shape):
        return False
    return all([fits(kind, part) for kind, part in zip(shape, thing[1:])])


def is_plan_list(thing):
    """Whether the thing is a list or a tuple of no more things than a plan has."""
    return is_list(thing) and len(thing) <= MOST_ROWS


def is_plan(thing):
    """Whether the thing is a plan."""
    return is_plan_list(thing) and all([is_plan_row(row) for row in thing])


def need_plan(thing):
    """Refuses what is no list as a plan is one, and the first thing in it that is no row."""
    if not is_plan_list(thing):
        raise NoLine(thing)
    for row in thing:
        if not is_plan_row(row):
            raise NoLine(row)


def numbers_text(numbers):
    """Numbers with a comma between any two."""
    return ",".join([str(number) for number in numbers])


def thing_text(kind, thing):
    """A thing of a row as a word."""
    if kind in ("name", "manner"):
        return thing
    if kind in ("number", "most"):
        return str(thing)
    if kind in ("twos", "fours"):
        return f"{numbers_text(thing[0])}/{numbers_text(thing[1])}"
    return "none" if thing is None else numbers_text(thing)


def row_line(row):
    """The line of a row."""
    words = [thing_text(kind, part) for kind, part in zip(SHAPES[row[0]], row[1:])]
    return " ".join([row[0], *words])


def plan_text(plan):
    """The text of a plan, a line for each row."""
    need_plan(plan)
    return "\n".join([row_line(row) for row in plan])


def read_numbers(word):
    """The tuple of what the word writes, of None where it is no number."""
    return tuple([number_of(part) for part in word.split(",")])


def read_thing(kind, word):
    """The thing that the word writes; of another kind where it writes none."""
    if kind in ("name", "manner"):
        return word
    if kind in ("number", "most"):
        return number_of(word)
    if kind in ("twos", "fours"):
        return tuple([read_numbers(part) for part in word.split("/")])
    if kind == "steps" and word == "none":
        return None
    return read_numbers(word)


def read_line(line):
    """The row that the line writes, or None."""
    words = line.split(" ")
    if words[0] not in SHAPES:
        return None
    shape = SHAPES[words[0]]
    if len(words) != 1 + len(shape):
        return None
    things = [read_thing(kind, word) for kind, word in zip(shape, words[1:])]
    row = (words[0], *things)
    return row if is_plan_row(row) else None


def read_plan(text):
    """The plan that the text writes, a list of rows."""
    if not isinstance(text, str):
        raise NoText(0)
    if text == "":
        return []
    rows = [read_line(line) for line in text.split("\n")]
    for at, row in enumerate(rows):
        if row is None:
            raise NoText(at)
    if len(rows) > MOST_ROWS:
        raise NoText(MOST_ROWS)
    return rows
