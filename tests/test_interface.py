import importlib
import inspect
import unittest

INTERFACE = {
    "words": ("is_number(thing)", "is_whole(thing, low, high)", "is_name(thing)", "number_of(text)"),
    "fractions": (
        "is_fraction(thing)", "fraction_text(fraction)", "read_fraction(text)", "lowest(top, bottom=1)",
        "plus(one, other)", "minus(one, other)", "times(one, other)", "over(one, other)",
        "sign_of(one, other)", "whole_of(fraction, how='floor')"),
    "rows": (
        "is_floor_row(thing)", "floor_row(fraction)", "fraction_of(row)", "turn_of(terms)",
        "beginnings(row)", "parting(one, other)"),
    "rowtext": ("row_text(row)", "read_row(text)"),
    "nearest": (
        "neighbours(fraction, bound)", "shows_neighbours(fraction, bound, thing)",
        "nearest(fraction, bound)", "nearest_row(fraction, bound=200)"),
    "between": (
        "between(low, high, low_in=False, high_in=False)",
        "shows_between(low, high, thing, low_in=False, high_in=False)",
        "middle(one, other)", "parents(fraction)"),
    "manners": (
        "is_row(thing, manner='floor')", "row_of(fraction, manner='floor')",
        "number_of(row, manner='floor')", "may_follow(terms, thing, manner='floor')",
        "may_end(terms, manner='floor')", "taken_rows(t, manner='floor')",
        "given_rows(t, manner='floor')"),
    "cones": ("cone(terms, manner='floor')", "is_cone(thing)"),
}


class Interface(unittest.TestCase):
    def test_each_function_is_defined_where_it_is_listed(self):
        for file, listed in INTERFACE.items():
            module = importlib.import_module(f"termstream.{file}")
            for words in listed:
                name = words.partition("(")[0]
                found = getattr(module, name)
                self.assertEqual(name + str(inspect.signature(found)), words)
                self.assertEqual(found.__module__, f"termstream.{file}")
                self.assertTrue(inspect.isfunction(found))
