import random

from termstream.errors import NoLine, NoText
from termstream.plans import is_plan, plan_text, read_plan
from tests.things import Asking, all_but, any_things

THIRTY = 10 ** 30 - 1
# A row of each word, and the line of it.
ROWS = {
    ("row", "a", "floor", (3, 7, -15)): "row a floor 3,7,-15",
    ("ruled", "e", "floor", (2,), (1, 2, 1), (0, 2, 0)): "ruled e floor 2 1,2,1 0,2,0",
    ("ruled", "golden", "near", (-1, THIRTY), (0,), None): f"ruled golden near -1,{THIRTY} 0 none",
    ("fed", "b", "ceil"): "fed b ceil",
    ("surd", "s", -1, 0, -THIRTY): f"surd s -1 0 {-THIRTY}",
    ("one", "o", "a", "near", 64, ((0, -1), (2, THIRTY))): f"one o a near 64 0,-1/2,{THIRTY}",
    ("two", "z", "x", "y", "near", 40, ((0, 1, 1, 0), (0, 0, 0, 1))): "two z x y near 40 0,1,1,0/0,0,0,1",
    ("root", "r", "zzzzzz", 1): "root r zzzzzz 1",
}
LARGE = [
    ("row", "a", "near", tuple((-1) ** k * (THIRTY - k) for k in range(100))),
    ("ruled", "b", "ceil", (1,) * 100, tuple(range(20)), tuple(range(-20, 0))),
    *ROWS,
]
# Each row with something amiss.
WRONG = [
    (), ("row",), ("rows", "a", "floor", (3,)), (None, "a", "floor"), (["fed"], "a", "floor"),
    ["fed", "a", "floor"], ("fed", "a"), ("fed", "a", "floor", ()), ("fed", "A", "floor"), ("fed", "", "floor"),
    ("fed", "abcdefg", "floor"), ("fed", "a", "Floor"), ("fed", "a", None), ("fed", 3, "floor"),
    ("row", "a", "floor", ()), ("row", "a", "floor", [3]), ("row", "a", "floor", 3), ("row", "a", "floor", (3, None)),
    ("row", "a", "floor", (3, True)), ("row", "a", "floor", (THIRTY + 1,)), ("row", "a", "floor", (-THIRTY - 1,)),
    ("row", "a", "floor", (1,) * 101), ("row", "a", (3,)), ("row", "a", "floor", (3,), None), ("row", "a", "x", (3,)),
    ("ruled", "a", "floor", (2,), (1,)), ("ruled", "a", "floor", (2,), (), None), ("ruled", "a", "floor", (), (1,), None),
    ("ruled", "a", "floor", (2,), (1,) * 21, None), ("ruled", "a", "floor", (2,), (1,), ()),
    ("ruled", "a", "floor", (2,), (1,), (0,) * 21), ("ruled", "a", "floor", (2,), [1], None),
    ("ruled", "a", "floor", (2,), (1,), [0]), ("ruled", "a", "floor", (2,), None, None),
    ("ruled", "a", "floor", (2,), (1,), "none"), ("ruled", "a", "floor", (2,), (1,), (None,)),
    ("surd", "a", 1, 2), ("surd", "a", 1, 2, 3, 4), ("surd", "a", True, 2, 3), ("surd", "a", 1, None, 3),
    ("surd", "a", 1, 2, THIRTY + 1), ("surd", "a", "1", 2, 3),
    ("one", "a", "b", "near", 40, ((1, 2), (3,))), ("one", "a", "b", "near", 40, ((1, 2), [3, 4])),
    ("one", "a", "b", "near", 40, [(1, 2), (3, 4)]), ("one", "a", "b", "near", 0, ((1, 2), (3, 4))),
    ("one", "a", "b", "near", 65, ((1, 2), (3, 4))), ("one", "a", "b", "near", True, ((1, 2), (3, 4))),
    ("one", "a", "b", "near", ((1, 2), (3, 4))), ("one", "a", 3, "near", 40, ((1, 2), (3, 4))),
    ("one", "a", "b", "near", 40, ((1, 2), (3, THIRTY + 1))), ("one", "a", "b", "near", 40, ((1, 2), (3, 4), (5, 6))),
    ("one", "a", "b", "near", 40, ((1, 2, 3, 4), (1, 2, 3, 5))), ("one", "a", "b", "x", 40, ((1, 2), (3, 4))),
    ("two", "a", "b", "near", 40, ((0, 1, 1, 0), (0, 0, 0, 1))), ("two", "a", "b", "c", "near", 40, ((1, 2), (3, 4))),
    ("two", "a", "b", "c", "near", None, ((0, 1, 1, 0), (0, 0, 0, 1))),
    ("two", "a", "b", "C", "near", 40, ((0, 1, 1, 0), (0, 0, 0, 1))),
    ("two", "a", "b", "c", "near", 40, ((0, 1, 1, 0), (0, 0, 0))),
    ("two", "a", "b", "c", "near", 40, ((0, 1, 1, False), (0, 0, 0, 1))),
    ("root", "a", "b"), ("root", "a", "b", 0), ("root", "a", "b", 65), ("root", "a", "", 40), ("root", "a", "b", 40, 1),
    None, "fed a floor", 3, {"fed": "a"},
]
# Lines that write no row.
NO_LINES = [
    "", " ", "fed", "fed a", "fed a floor ", " fed a floor", "fed  a floor", "fed a  floor", "fed a floor floor",
    "Fed a floor", "fed A floor", "fed abcdefg floor", "fed a flour", "fed a none", "feda floor", "load", "plan",
    "row a floor", "row a floor ", "row a floor 3,", "row a floor ,3", "row a floor 3,,7", "row a floor 3, 7",
    "row a floor 3;7", "row a floor 03", "row a floor +3", "row a floor -0", "row a floor 3,-", "row a floor none",
    "row a floor 3/7", f"row a floor {THIRTY + 1}", f"row a floor {-THIRTY - 1}", "row a floor 3 7", "row a 3 floor",
    "row a floor " + ",".join(["1"] * 101), "row a floor 3.5", "row a floor x",
    "ruled e floor 2 1,2,1", "ruled e floor 2 1,2,1 None", "ruled e floor 2 none none", "ruled e floor none 1 none",
    "ruled e floor 2 1,2,1 0,2,0,", "ruled e floor 2 1 " + ",".join(["1"] * 21), "ruled e floor 2 1 none none",
    "surd s 1 5", "surd s 1 5 2 3", "surd s 1 5 02", "surd s 1 none 2", "surd s 1,2 5 2", f"surd s 1 {THIRTY + 1} 2",
    "one o a near 40 0,1/1", "one o a near 40 0,1/1,0/", "one o a near 40 0,1/1,0/1,0", "one o a near 40 0,1,1,0",
    "one o a near 0 0,1/1,0", "one o a near 65 0,1/1,0", "one o a near 040 0,1/1,0", "one o a near 40 0,1 / 1,0",
    "one o near 40 0,1/1,0", "one o a 40 near 0,1/1,0", "one o a near 40 0,1,1,0/0,0,0,1", "one o a near 40 /",
    "two z x y near 40 0,1/1,0", "two z x near 40 0,1,1,0/0,0,0,1", "two z x y near 40 0,1,1,0,0/0,0,0,1",
    "root r z", "root r z 65", "root r z -1", "root r z forty", "root r z 1 1", "root r 1 z",
]


class IsPlan(Asking):
    def test_of_each_word(self):
        for row in LARGE:
            self.assertIs(is_plan([row]), True)
            self.assertIs(is_plan((row,)), True)
        self.assertIs(is_plan([]), True)
        self.assertIs(is_plan(()), True)
        self.assertIs(is_plan(LARGE), True)
        self.assertIs(is_plan([("fed", "a", "floor")] * 12), True)
        self.assertIs(is_plan([("fed", "a", "floor")] * 13), False)

    def test_names_may_be_told_twice_or_not_be_there(self):
        self.assertIs(is_plan([("fed", "a", "floor"), ("row", "a", "near", (0, 0)), ("root", "a", "a", 3)]), True)
        self.assertIs(is_plan([("surd", "s", 1, -5, 0), ("one", "o", "x", "near", 1, ((0, 0), (0, 0)))]), True)

    def test_each_row_with_each_thing_amiss(self):
        for row in WRONG:
            self.assertIs(is_plan([row]), False, row)
            self.assertIs(is_plan([("fed", "a", "floor"), row]), False, row)

    def test_of_any_thing(self):
        fits = [thing for thing in any_things() if is_plan(thing)]
        self.assertEqual(fits, [[], (), [("fed", "a", "floor")]])
        for row in ROWS:
            for at in range(len(row)):
                for thing in any_things():
                    changed = (*row[:at], thing, *row[at + 1:])
                    right = any(self.is_alike(thing, other[at]) for other in self.alike(row, at, thing))
                    self.assertIs(is_plan([changed]), right, changed)

    def alike(self, row, at, thing):
        """Rows that are known to be good, which have the thing in its place, if it may stand there."""
        if at == 0:
            return [row]
        good = {
            "name": ["a", "z", "abcdef", "floor", "ceil", "near", "told"], "manner": ["floor", "ceil", "near"],
            "most": [1, 2, 3, 7, 4, 5, 20, 60, 61, 64],
        }
        kinds = {"row": "wnmt", "ruled": "wnmtrs", "fed": "wnm", "surd": "wnppp", "one": "wnnmof", "two": "wnnnmof",
                 "root": "wnno"}
        kind = kinds[row[0]][at]
        if kind == "n":
            found = good["name"]
        elif kind == "m":
            found = good["manner"]
        elif kind == "o":
            found = good["most"]
        elif kind == "p":
            found = [thing] if type(thing) is int and abs(thing) < 10 ** 30 else []
        elif kind in "trs":
            found = [thing] if type(thing) is tuple and thing and all(type(part) is int for part in thing) else []
            found += [None] if kind == "s" else []
        else:
            many = 2 if row[0] == "one" else 4
            right = type(thing) is tuple and len(thing) == 2 and all(
                type(part) is tuple and [type(number) for number in part] == [int] * many for part in thing)
            found = [thing] if right else []
        return [(*row[:at], part, *row[at + 1:]) for part in found]

    def is_alike(self, one, other):
        return type(one) is type(other) and one == other


class Texts(Asking):
    def test_a_line_for_each_word(self):
        for row, line in ROWS.items():
            self.assertEqual(plan_text([row]), line)
            self.assertEqual(plan_text((row,)), line)
            found = read_plan(line)
            self.assertEqual(found, [row])
            self.assertEqual([type(part) for part in (found, found[0])], [list, tuple])
        self.assertEqual(plan_text(list(ROWS)), "\n".join(ROWS.values()))
        self.assertEqual(read_plan("\n".join(ROWS.values())), list(ROWS))

    def test_of_no_rows_and_of_twelve(self):
        self.assertEqual(plan_text([]), "")
        self.assertEqual(plan_text(()), "")
        self.assertEqual(read_plan(""), [])
        rows = [("fed", name, "near") for name in "abcdefghijkl"]
        self.assertEqual(read_plan(plan_text(rows)), rows)

    def test_what_is_written_is_read(self):
        self.assertEqual(read_plan(plan_text(LARGE)), LARGE)
        chance = random.Random(113)

        def number():
            return chance.choice((1, -1)) * chance.randint(0, 10 ** chance.randint(1, 30) - 1)

        def numbers(low, high):
            return tuple(number() for _ in range(chance.randint(low, high)))

        def name():
            return "".join(chance.choices("abcz", k=chance.randint(1, 6)))

        for _ in range(60):
            manner, most = chance.choice(("floor", "ceil", "near")), chance.randint(1, 64)
            rows = [
                ("row", name(), manner, numbers(1, 100)), ("fed", name(), manner),
                ("ruled", name(), manner, numbers(1, 9), numbers(1, 20), chance.choice((None, numbers(1, 20)))),
                ("surd", name(), number(), number(), number()), ("root", name(), name(), most),
                ("one", name(), name(), manner, most, (numbers(2, 2), numbers(2, 2))),
                ("two", name(), name(), name(), manner, most, (numbers(4, 4), numbers(4, 4))),
            ]
            plan = chance.choices(rows, k=chance.randint(0, 12))
            self.assertIs(is_plan(plan), True)
            self.assertEqual(read_plan(plan_text(plan)), plan)

    def test_a_copy_is_told(self):
        found = read_plan("fed a floor")
        found.append(3)
        self.assertEqual(read_plan("fed a floor"), [("fed", "a", "floor")])
        self.assert_new_each_time(lambda: read_plan("fed a floor\nfed b near"))

    def test_which_line_is_told(self):
        good = "fed a floor"
        for line in NO_LINES:
            if line != "":
                self.assert_refused(NoText, 0, read_plan, line)
            self.assert_refused(NoText, 1, read_plan, f"{good}\n{line}")
            self.assert_refused(NoText, 0, read_plan, f"{line}\n{good}")
            self.assert_refused(NoText, 2, read_plan, f"{good}\n{good}\n{line}\n{line}\n{good}")
        # A line feed at the end, and ahead, and alone: each has a line without signs.
        self.assert_refused(NoText, 1, read_plan, good + "\n")
        self.assert_refused(NoText, 0, read_plan, "\n" + good)
        self.assert_refused(NoText, 0, read_plan, "\n")
        self.assert_refused(NoText, 1, read_plan, f"{good}\n\n{good}")

    def test_thirteen_lines(self):
        good = ["fed a floor"] * 13
        self.assert_refused(NoText, 12, read_plan, "\n".join(good))
        self.assert_refused(NoText, 12, read_plan, "\n".join(good * 3))
        self.assert_refused(NoText, 12, read_plan, "\n".join(good[:12] + ["fed a"]))
        for at in (0, 5, 11, 14, 19):
            lines = ["fed a floor"] * 20
            lines[at] = "fed a"
            self.assert_refused(NoText, at, read_plan, "\n".join(lines))

    def test_refused_of_any_thing(self):
        for thing in all_but(lambda thing: isinstance(thing, str)):
            self.assert_refused(NoText, 0, read_plan, thing)
        for thing in any_things():
            if isinstance(thing, str) and thing not in ("", "fed a floor"):
                self.assert_refused(NoText, 0, read_plan, thing)
            if not isinstance(thing, (list, tuple)) or len(thing) > 12:
                self.assert_refused(NoLine, thing, plan_text, thing)
            elif not is_plan(thing):
                wrong = [part for part in thing if not is_plan([part])]
                self.assert_refused(NoLine, wrong[0], plan_text, thing)
        for row in WRONG:
            self.assert_refused(NoLine, row, plan_text, [("fed", "a", "floor"), row, None])
        long = [None] * 13
        self.assert_refused(NoLine, long, plan_text, long)
        long = [("fed", "a", "floor")] * 13
        self.assert_refused(NoLine, long, plan_text, long)
