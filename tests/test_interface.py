import importlib
import inspect
import unittest

INTERFACE = {
    "words": ("is_number(thing)", "is_whole(thing, low, high)", "is_name(thing)", "number_of(text)"),
    "fractions": (
        "is_fraction(thing)", "fraction_text(fraction)", "read_fraction(text)", "lowest(top, bottom=1)",
        "plus(one, other)", "minus(one, other)", "times(one, other)", "over(one, other)",
        "sign_of(one, other)", "whole_of(fraction, how='floor')"),
    "rows": (
        "is_floor_row(thing)", "floor_row(fraction)", "fraction_of(row)", "turn_of(terms)",
        "beginnings(row)", "parting(one, other)"),
    "rowtext": ("row_text(row)", "read_row(text)"),
    "nearest": (
        "neighbours(fraction, bound)", "shows_neighbours(fraction, bound, thing)",
        "nearest(fraction, bound)", "nearest_row(fraction, bound=200)"),
    "between": (
        "between(low, high, low_in=False, high_in=False)",
        "shows_between(low, high, thing, low_in=False, high_in=False)",
        "middle(one, other)", "parents(fraction)"),
    "manners": (
        "is_row(thing, manner='floor')", "row_of(fraction, manner='floor')",
        "number_of(row, manner='floor')", "may_follow(terms, thing, manner='floor')",
        "may_end(terms, manner='floor')", "taken_rows(t, manner='floor')",
        "given_rows(t, manner='floor')"),
    "cones": ("cone(terms, manner='floor')", "is_cone(thing)"),
    "ranges": (
        "rows_times(one, other)", "settled(low, low_in, high, high_in, manner='floor')", "range_of(rows, cone)"),
    "settling": ("neighbours_of(stream, bound)",),
    "rounds": (
        "equation_of(terms, again)", "surd_of(terms, again)", "least_row(terms, again)",
        "shows_row(surd, terms, again)"),
    "corners": ("sides_of(terms, ended, manner)", "form_at(form, vectors)", "range_over(top, bottom, sides)"),
    "ones": (
        "plain_one(rows, x, many, manner='floor')",
        "shows_apart(rows, terms, one, other, place, manner='floor', of='floor')"),
    "twos": (
        "plain_two(rows, x, y, many, manner='floor')",
        "shows_pairs_apart(rows, terms, other_terms, one, other, place, manner='floor', of='floor', other_of='floor')"),
    "rooted": (
        "root_row(fraction, many)", "root_next(fraction, given)",
        "shows_root_parts(taken, given, thing, manner='floor')"),
    "digits": (
        "digits(stream, many, base=10, most=64)", "number_of_digits(found, base=10)", "digits_text(found, base=10)"),
    "comparing": ("compare(one, other, most=40)",),
    "reckoner": ("reckoned(net, name, deep)",),
    "plans": ("is_plan(thing)", "plan_text(plan)", "read_plan(text)"),
    "building": ("net_of(plan)",),
}

# The class, the one it stands under, how it is made, and its methods.
CLASSES = {
    "streams": (
        ("Stream", "object", "(manner)", (
            "ask(k)", "terms(many)", "manner()", "asked()", "depth()", "bounds()", "more()", "made()")),),
    "sources": (
        ("Row", "Stream", "(terms, manner='floor')", ("more()",)),
        ("Ruled", "Stream", "(terms, round_terms, steps=None, manner='floor')", ("more()",)),
        ("Fed", "Stream", "(manner='floor')", ("feed(term)", "finish()", "more()")),
        ("Tail", "Stream", "(stream, place)", ("more()",))),
    "surds": (
        ("Surd", "object", "(p, d, q=1)", (
            "told()", "__str__()", "__repr__()", "__eq__(other)", "compare(other)", "fraction()", "other_root()",
            "equation()", "floor()", "rest()", "terms(many=20)", "comes_round(most=200)", "reduced()")),),
    "machines": (
        ("Machine", "Stream", None, ("state()", "parts()", "bounds()", "depth()", "more()")),),
    "ones": (("One", "Machine", "(rows, stream, manner='floor', most=40)", ()),),
    "twos": (("Two", "Machine", "(rows, one, other, manner='floor', most=40)", ("parts()",)),),
    "rooted": (("Rooted", "Stream", "(stream, most=40)", ("taken()", "parts()", "depth()", "more()")),),
    "running": (("Running", "Stream", "(surd)", ("more()",)),),
    "nets": (
        ("Net", "object", "()", (
            "put(name, stream)", "put_surd(name, surd)",
            "put_one(name, source, rows, manner='floor', most=40)",
            "put_two(name, one, other, rows, manner='floor', most=40)", "put_root(name, source, most=40)",
            "names()", "__len__()", "stream(name)", "way(name)", "counts()", "ask(name, k)", "place(name)",
            "read(name, many=1)", "undo()")),),
    "desk": (("Desk", "object", "()", ("say(line)", "net()", "plan()")),),
}


class Interface(unittest.TestCase):
    def test_each_function_is_defined_where_it_is_listed(self):
        for file, listed in INTERFACE.items():
            module = importlib.import_module(f"termstream.{file}")
            for words in listed:
                name = words.partition("(")[0]
                found = getattr(module, name)
                self.assertEqual(name + str(inspect.signature(found)), words)
                self.assertEqual(found.__module__, f"termstream.{file}")
                self.assertTrue(inspect.isfunction(found))

    def test_each_class_is_defined_where_it_is_listed(self):
        for file, listed in CLASSES.items():
            module = importlib.import_module(f"termstream.{file}")
            for name, base, made, methods in listed:
                found = getattr(module, name)
                self.assertEqual(found.__module__, f"termstream.{file}")
                self.assertEqual([part.__name__ for part in found.__bases__], [base])
                if made is not None:
                    self.assertEqual(str(inspect.signature(found)), made)
                self.assert_methods(found, methods)

    def assert_methods(self, found, methods):
        """Each stands in the class itself, with its own object and what is listed."""
        for words in methods:
            name, _, handed = words.partition("(")
            method = vars(found)[name]
            right = f"(self, {handed}" if handed != ")" else "(self)"
            self.assertEqual(str(inspect.signature(method)), right, words)
