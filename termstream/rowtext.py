"""Rows of the manner `floor` as texts: `3;7,15`."""

from termstream.errors import NoLine
from termstream.rows import is_floor_row, need_floor_row
from termstream.words import number_of


def row_text(row):
    """The text of a legal row."""
    need_floor_row(row)
    first = str(row[0])
    if len(row) == 1:
        return first
    rest = ",".join([str(term) for term in row[1:]])
    return f"{first};{rest}"


def read_row(text):
    """The legal row that the text writes, a list."""
    if not isinstance(text, str):
        raise NoLine(text)
    first, sign, rest = text.partition(";")
    words = [first]
    if sign:
        words.extend(rest.split(","))
    row = [number_of(word) for word in words]
    if not is_floor_row(row):
        raise NoLine(text)
    return row
