from termstream.building import net_of
from termstream.errors import (
    Doubled, Flat, NoBack, NoLine, NoRound, NoRow, NoSurd, NotInNet, TooMany,
)
from termstream.nets import Net
from termstream.plans import is_plan
from termstream.sources import Fed, Row, Ruled
from termstream.surds import Surd
from tests.test_plans import WRONG
from tests.things import Asking, any_things

PLAN = [
    ("row", "a", "floor", (3, 7)),
    ("ruled", "e", "floor", (2,), (1, 2, 1), (0, 2, 0)),
    ("ruled", "c", "ceil", (1,), (2, 3), None),
    ("fed", "f", "near"),
    ("surd", "s", 1, 5, 2),
    ("one", "o", "e", "near", 7, ((2, 0), (0, 1))),
    ("two", "z", "a", "s", "ceil", 64, ((0, 1, 1, 0), (0, 0, 0, 1))),
    ("root", "r", "z", 9),
    ("one", "p", "f", "floor", 1, ((0, 1), (1, 0))),
    ("two", "q", "e", "e", "floor", 40, ((1, 0, 0, 0), (0, 0, 0, 1))),
    ("root", "t", "q", 40),
    ("two", "u", "t", "r", "near", 40, ((0, 1, -1, 0), (0, 0, 0, 1))),
]


def by_hand():
    net = Net()
    net.put("a", Row([3, 7]))
    net.put("e", Ruled([2], [1, 2, 1], [0, 2, 0]))
    net.put("c", Ruled([1], [2, 3], None, "ceil"))
    net.put("f", Fed("near"))
    net.put_surd("s", Surd(1, 5, 2))
    net.put_one("o", "e", ((2, 0), (0, 1)), "near", 7)
    net.put_two("z", "a", "s", ((0, 1, 1, 0), (0, 0, 0, 1)), "ceil", 64)
    net.put_root("r", "z", 9)
    net.put_one("p", "f", ((0, 1), (1, 0)), "floor", 1)
    net.put_two("q", "e", "e", ((1, 0, 0, 0), (0, 0, 0, 1)))
    net.put_root("t", "q")
    net.put_two("u", "t", "r", ((0, 1, -1, 0), (0, 0, 0, 1)), "near")
    return net


class Built(Asking):
    def test_it_is_the_net_that_is_put_together_by_hand(self):
        for plan in (PLAN, tuple(PLAN)):
            net, right = net_of(plan), by_hand()
            self.assertEqual(net.names(), right.names())
            for name in net.names():
                self.assertEqual(net.way(name), right.way(name))
                self.assertEqual(net.stream(name).manner(), right.stream(name).manner())
                self.assertEqual(net.stream(name).depth(), right.stream(name).depth())
            for name in reversed(net.names()):
                for place in (0, 3, 12):
                    self.assertEqual(net.ask(name, place), right.ask(name, place))
            self.assertEqual(net.counts(), right.counts())

    def test_a_new_net_each_time(self):
        one, other = net_of(PLAN), net_of(PLAN)
        one.ask("e", 5)
        self.assertEqual(other.counts()["e"], 0)
        self.assertIsNot(one.stream("e"), other.stream("e"))
        self.assertEqual([net_of(plan).names() for plan in ([], ())], [[], []])

    def test_each_putting_in_can_be_undone(self):
        net = net_of(PLAN)
        for row in reversed(PLAN):
            self.assertEqual(net.undo(), ("put", row[1]))
        with self.assertRaises(NoBack):
            net.undo()

    def test_a_fed_is_fed(self):
        net = net_of(PLAN)
        net.stream("f").feed(4)
        self.assertEqual(net.ask("f", 0), ("term", 4))

    def test_refused_as_making_the_stream_refuses(self):
        for row, error, found in (
            (("row", "x", "floor", (3, 0)), NoRow, (3, 0)), (("row", "x", "ceil", (3, 1)), NoRow, (3, 1)),
            (("ruled", "x", "floor", (3, 0), (1,), None), NoRow, (3, 0)),
            (("ruled", "x", "floor", (3,), (0,), None), NoRound, (0,)),
            (("ruled", "x", "floor", (3,), (1, 2), (1,)), NoRound, (1,)),
            (("ruled", "x", "floor", (3,), (1, 2), (1, -1)), NoRound, (1, 2)),
            (("ruled", "x", "ceil", (3,), (2, 2), None), NoRound, (2, 2)),
            (("surd", "x", 1, -5, 2), NoSurd, -5), (("surd", "x", 1, 5, 0), NoSurd, 0),
            (("surd", "x", 1, -5, 0), NoSurd, -5),
        ):
            at = 3 if error == NoRow else 4 if found == row[4] else 5 if row[0] == "ruled" else row.index(found)
            self.assert_refused(error, row[at], net_of, [*PLAN[:3], row, ("root", "y", "nobody", 3)])
            # Behind it comes what putting in refuses.
            doubled = (row[0], "a", *row[2:])
            self.assert_refused(error, row[at], net_of, [*PLAN[:3], doubled])

    def test_refused_as_putting_it_in_does(self):
        for row, error, found in (
            (("row", "a", "floor", (3,)), Doubled, 1), (("ruled", "a", "floor", (3,), (1,), None), Doubled, 1),
            (("fed", "a", "floor"), Doubled, 1), (("surd", "a", 1, 5, 2), Doubled, 1),
            (("one", "a", "e", "near", 3, ((1, 0), (0, 1))), Doubled, 1),
            (("two", "a", "e", "a", "near", 3, ((1, 0, 0, 0), (0, 0, 0, 1))), Doubled, 1),
            (("root", "a", "e", 3), Doubled, 1),
            (("one", "a", "x", "near", 3, ((1, 0), (0, 1))), NotInNet, 2),
            (("one", "x", "x", "near", 3, ((1, 0), (0, 1))), NotInNet, 2),
            (("two", "a", "x", "y", "near", 3, ((0, 0, 0, 0), (0, 0, 0, 1))), NotInNet, 2),
            (("two", "a", "e", "y", "near", 3, ((0, 0, 0, 0), (0, 0, 0, 1))), NotInNet, 3),
            (("root", "a", "y", 3), NotInNet, 2),
            (("one", "a", "e", "near", 3, ((1, 2), (2, 4))), Flat, 5),
            (("two", "a", "e", "e", "near", 3, ((0, 0, 0, 0), (0, 0, 0, 1))), Flat, 6),
        ):
            self.assert_refused(error, row[found], net_of, [*PLAN[:2], row, ("row", "b", "floor", (3, 0))])
        deep = [("fed", "a", "floor")] + [("root", name, source, 3) for name, source in zip("bcde", "abcd")]
        self.assertEqual(len(net_of(deep)), 5)
        for row in (("root", "a", "e", 3), ("one", "x", "e", "near", 3, ((1, 0), (0, 1))),
                    ("two", "x", "a", "e", "near", 3, ((1, 0, 0, 0), (0, 0, 0, 1)))):
            self.assert_refused(TooMany, 5, net_of, [*deep, row])

    def test_the_form_of_all_rows_is_looked_at_ahead(self):
        for row in WRONG:
            self.assert_refused(NoLine, row, net_of, [("row", "a", "floor", (3, 0)), row, None])
        for thing in any_things():
            if not isinstance(thing, (list, tuple)) or len(thing) > 12:
                self.assert_refused(NoLine, thing, net_of, thing)
            elif not is_plan(thing):
                self.assert_refused(NoLine, [part for part in thing if not is_plan([part])][0], net_of, thing)
        long = [("fed", name, "near") for name in "abcdefghijklm"]
        self.assert_refused(NoLine, long, net_of, long)
        self.assertEqual(len(net_of(long[:12])), 12)

    def test_the_plan_is_not_kept(self):
        plan = list(PLAN)
        net = net_of(plan)
        plan.clear()
        self.assertEqual(net.names(), [row[1] for row in PLAN])
