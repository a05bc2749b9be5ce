import random
from math import isqrt

from termstream.building import net_of
from termstream.comparing import compare
from termstream.desk import Desk
from termstream.digits import digits, digits_text
from termstream.errors import (
    Doubled, Finished, Flat, NoBack, NoBase, NoLine, NoManner, NoNumber, NoPlace, NoRound, NoRow, NoStream, NoSurd,
    NotInNet, NoTerm, NoText, TooMany,
)
from termstream.fractions import fraction_text
from termstream.plans import plan_text, read_plan
from termstream.settling import neighbours_of
from termstream.surds import Surd
from tests.test_building import PLAN
from tests.test_plans import NO_LINES, ROWS
from tests.things import Asking, all_but, any_things, picture

LINES = plan_text(PLAN).split("\n")
THIRTY = 10 ** 30 - 1


def told(*lines):
    """A desk that was told the lines."""
    desk = Desk()
    for line in lines:
        desk.say(line)
    return desk


def small():
    return told("row a floor 3,7", "ruled e floor 2 1,2,1 0,2,0", "fed f floor", "fed g near",
                "one o e floor 40 2,0/0,1", "two z a f floor 40 0,1,1,0/0,0,0,1", "root r f 40", "surd s 1 5 2")


class Lines(Asking):
    def test_a_desk_with_nothing(self):
        desk = Desk()
        for line in ("plan", "names", "counts"):
            self.assertEqual(desk.say(line), "nothing")
        with self.assertRaises(NoBack):
            desk.say("undo")
        self.assertEqual((desk.plan(), desk.net().names(), len(desk.net())), ([], [], 0))
        for line in ("ask a 0", "feed a 3", "finish a", "read a 1", "bounds a", "near a 1", "digits a 1 10", "parts a",
                     "compare a b 3"):
            self.assert_refused_by(desk, NotInNet, "a", line)

    def assert_refused_by(self, desk, error, found, line):
        """The line is refused, holding what equals the thing, and nothing is changed."""
        before = picture(desk)
        with self.assertRaises(error) as caught:
            desk.say(line)
        self.assertIs(type(caught.exception), error)
        field = {TooMany: "many", NoText: "line"}.get(error, "found")
        self.assertEqual(getattr(caught.exception, field), found)
        self.assertIs(type(getattr(caught.exception, field)), type(found))
        self.assertEqual(picture(desk), before)

    def test_plans_lines(self):
        desk = Desk()
        for at, line in enumerate(LINES):
            self.assertEqual(desk.say(line), PLAN[at][1])
            self.assertEqual(desk.plan(), PLAN[:at + 1])
            self.assertEqual(desk.net().names(), [row[1] for row in PLAN[:at + 1]])
        self.assertEqual(desk.say("plan"), " / ".join(LINES))
        self.assertEqual(desk.say("names"), " ".join(row[1] for row in PLAN))
        self.assertEqual(desk.say("counts"), " ".join(f"{row[1]} 0" for row in PLAN))
        self.assert_refused_by(desk, TooMany, 13, "row x floor 3")
        self.assert_refused_by(desk, TooMany, 13, "surd x 1 5 2")
        self.assert_refused_by(desk, Doubled, "a", "row a floor 3")
        self.assert_refused_by(desk, NoRow, (3, 0), "row x floor 3,0")

    def test_plans_lines_refused(self):
        desk = small()
        for error, found, line in (
            (NoRow, (3, 0), "row x floor 3,0"), (NoRound, (0,), "ruled x floor 3 0 none"),
            (NoSurd, -5, "surd x 1 -5 2"), (NoSurd, 0, "surd x 1 5 0"), (Doubled, "a", "fed a floor"),
            (NotInNet, "x", "one x x floor 40 2,0/0,1"), (NotInNet, "y", "two x a y floor 40 0,1,1,0/0,0,0,1"),
            (NotInNet, "x", "root a x 3"), (Flat, ((1, 2), (2, 4)), "one x a floor 40 1,2/2,4"),
            (Flat, ((0, 0, 0, 0), (0, 0, 0, 1)), "two x a a floor 40 0,0,0,0/0,0,0,1"),
        ):
            self.assert_refused_by(desk, error, found, line)
        for line in NO_LINES:
            if line not in ("load", "plan"):
                self.assert_refused_by(desk, NoLine, line, line)

    def test_load(self):
        desk = Desk()
        self.assertEqual(desk.say("load " + " / ".join(LINES)), "12")
        self.assertEqual((desk.plan(), desk.net().names()), (PLAN, [row[1] for row in PLAN]))
        self.assertEqual(desk.say("load fed a floor"), "1")
        self.assertEqual((desk.plan(), desk.say("names")), ([("fed", "a", "floor")], "a"))
        self.assertEqual(desk.say("undo"), "put a")
        self.assertEqual(desk.say("load fed x near / fed y ceil"), "2")
        self.assertEqual(desk.say("load"), "0")
        self.assertEqual((desk.plan(), desk.say("plan"), desk.say("names")), ([], "nothing", "nothing"))
        with self.assertRaises(NoBack):
            desk.say("undo")

    def test_load_over_what_there_is(self):
        desk = small()
        desk.say("feed f 3")
        desk.say("read e 5")
        net = desk.net()
        for error, found, line in (
            (NoText, 0, "load /"), (NoText, 0, "load / fed a floor"), (NoText, 0, "load fed a floor /"),
            (NoText, 1, "load fed a floor / fed b"), (NoText, 1, "load fed a floor / / fed b near"),
            (NoText, 1, "load fed a floor / fed b near /"),
            (NoText, 0, "load x"), (NoText, 0, "load load"), (NoText, 12, "load " + " / ".join(["fed a floor"] * 13)),
            (NoText, 3, "load " + " / ".join(["fed a floor"] * 3 + ["fed"] + ["fed a floor"] * 9)),
            (Doubled, "a", "load fed a floor / fed a near"), (NotInNet, "b", "load fed a floor / root c b 3"),
            (NoRow, (3, 0), "load fed a floor / row b floor 3,0"), (NoSurd, -1, "load surd s 1 -1 0"),
            (NoLine, "load ", "load "), (NoLine, "load  fed a floor", "load  fed a floor"),
            (NoLine, "load fed a floor ", "load fed a floor "), (NoLine, "load fed a\nfloor", "load fed a\nfloor"),
        ):
            self.assert_refused_by(desk, error, found, line)
        self.assertIs(desk.net(), net)
        # Just there, in the place of those that were: the rows, the readings, the fed terms.
        self.assertEqual(desk.say("load ruled e floor 1 2 none / fed f floor"), "2")
        self.assertIsNot(desk.net(), net)
        self.assertEqual(desk.say("counts"), "e 0 f 0")
        self.assertEqual(desk.say("read e 3"), "1 2 2 more")
        self.assertEqual(desk.say("feed f 7"), "1")
        self.assertEqual([desk.say("undo") for _ in range(3)], ["read e", "put f", "put e"])
        with self.assertRaises(NoBack):
            desk.say("undo")

    def test_no_lines(self):
        desk = small()
        for thing in all_but(lambda thing: isinstance(thing, str)):
            self.assert_refused(NoLine, thing, desk.say, thing)
        for thing in any_things():
            if isinstance(thing, str) and thing not in ("fed a floor", "ask a 0"):
                self.assert_refused(NoLine, thing, desk.say, thing)
        good = ["plan", "names", "counts", "undo", "feed f 3", "finish f", "ask e 0", "read e 1", "bounds e", "near e 5",
                "digits e 3 10", "parts o", "compare e a 9"]
        for line in good:
            words = line.split(" ")
            wrong = [line + " ", " " + line, line + " 3", line + " a", line + "\n", "\n" + line, line.upper(), line + "\n3"]
            wrong += [" ".join(words[:-1])] if len(words) > 1 else []
            wrong += [line.replace(" ", "  ", 1), line.replace(" ", "\n", 1)] if len(words) > 1 else []
            wrong += [line + " a 3 3", line[:-1] + ".5" if line[-1].isdigit() else line + "A"]
            for at in range(1, len(words)):
                for word in ("A", "abcdefg", "03", "+3", "-0", "3.0", f"{THIRTY + 1}", "/", "none", "", "3,7"):
                    if word == "none" and words[at].isalpha():
                        continue
                    wrong.append(" ".join([*words[:at], word, *words[at + 1:]]))
                other = "3" if words[at].isalpha() else "a"
                wrong.append(" ".join([*words[:at], other, *words[at + 1:]]))
            for text in wrong:
                self.assert_refused_by(desk, NoLine, text, text)
        for line in ("", " ", "  ", "\n", "say plan", "plans", "plan plan", "Plan", "row", "load\n", "\nload", "fed"):
            self.assert_refused_by(desk, NoLine, line, line)

    def test_names_that_are_not_there_ahead_of_all_else(self):
        desk = small()
        for line in ("feed x 3", "finish x", "ask x 1000", "read x 0", "bounds x", "near x 0", "digits x 41 37",
                     "parts x", "compare x y 0", "compare e x 0", "compare g x 0", "compare x g 101"):
            self.assert_refused_by(desk, NotInNet, "x", line)
        self.assert_refused_by(desk, NotInNet, "none", "bounds none")

    def test_refused_as_the_points_tell(self):
        desk = small()
        for error, found, line in (
            (NoPlace, 1000, "ask e 1000"), (NoPlace, -1, "ask e -1"), (NoNumber, 0, "read e 0"),
            (NoNumber, 1001, "read e 1001"), (NoNumber, 0, "near e 0"), (NoNumber, 10 ** 12 + 1, f"near e {10 ** 12 + 1}"),
            (NoNumber, 41, "digits e 41 37"), (NoNumber, -1, "digits e -1 10"), (NoBase, 1, "digits e 3 1"),
            (NoBase, 37, "digits e 3 37"), (NoManner, "near", "compare g a 0"), (NoManner, "near", "compare a g 101"),
            (NoNumber, 0, "compare a e 0"), (NoNumber, 101, "compare a e 101"), (NoNumber, THIRTY, f"read e {THIRTY}"),
            (NoNumber, -THIRTY, f"read e {-THIRTY}"),
            (NoStream, "a", "feed a 3"), (NoStream, "o", "finish o"), (NoStream, "s", "feed s 0"),
            (NoStream, "a", "parts a"), (NoStream, "f", "parts f"), (NoStream, "s", "parts s"), (NoStream, "e", "parts e"),
        ):
            self.assert_refused_by(desk, error, found, line)
        desk.say("read e 400")
        self.assert_refused_by(desk, NoNumber, 601, "read e 601")


class Answers(Asking):
    def test_ask_and_bounds(self):
        desk = small()
        self.assertEqual(desk.say("ask a 0"), "term 3")
        self.assertEqual(desk.say("bounds a"), "3 4")
        self.assertEqual(desk.say("ask a 999"), "end")
        self.assertEqual(desk.say("bounds a"), "22/7 22/7")
        self.assertEqual(desk.say("bounds f"), "nothing")
        self.assertEqual(desk.say("ask f 3"), "open nothing")
        desk.say("feed f 3")
        self.assertEqual(desk.say("bounds f"), "nothing")
        self.assertEqual(desk.say("ask f 3"), "open 3 4")
        desk.say("feed f 7")
        self.assertEqual(desk.say("ask f 3"), "open 25/8 22/7")
        self.assertEqual(desk.say("bounds f"), "25/8 22/7")
        desk.say("one n a floor 40 1,0/7,-22")
        self.assertEqual(desk.say("ask n 3"), "nought")
        self.assertEqual(desk.say("bounds n"), "nothing")
        desk.say("row m ceil -3,4")
        self.assertEqual((desk.say("ask m 0"), desk.say("ask m 2"), desk.say("bounds m")), ("term -3", "end", "-13/4 -13/4"))

    def test_read(self):
        desk = small()
        self.assertEqual(desk.say("read e 4"), "2 1 2 1 more")
        self.assertEqual(desk.say("read e 1"), "1 more")
        self.assertEqual(desk.say("read a 3"), "3 7 end")
        self.assertEqual(desk.say("read a 3"), "end")
        self.assertEqual(desk.say("read f 3"), "open")
        self.assertEqual(desk.say("counts"), "a 2 e 5 f 0 g 0 o 0 z 0 r 0 s 0")
        desk.say("feed f -5")
        self.assertEqual(desk.say("read f 3"), "-5 open")
        self.assertEqual([desk.say("undo") for _ in range(6)],
                         ["read f", "read f", "read a", "read a", "read e", "read e"])
        self.assertEqual(desk.say("read e 2"), "2 1 more")
        desk.say("one n a floor 40 1,0/7,-22")
        self.assertEqual(desk.say("read n 5"), "nought")

    def test_near(self):
        desk = small()
        self.assertEqual(desk.say("near e 100"), "told 106/39 193/71")
        self.assertEqual(desk.say("near a 3"), "told 3 10/3")
        self.assertEqual(desk.say("near a 7"), "told 22/7 22/7")
        self.assertEqual(desk.say("near f 5"), "open nothing")
        desk.say("feed f 3")
        self.assertEqual(desk.say("near f 5"), "open 3 4")
        desk.say("one n a floor 40 1,0/7,-22")
        self.assertEqual(desk.say("near n 5"), "nought")

    def test_digits(self):
        desk = small()
        self.assertEqual(desk.say("digits e 2 10"), "all 2.71")
        self.assertEqual(desk.say("digits a 0 10"), "all 3")
        self.assertEqual(desk.say("digits f 5 10"), "open nothing")
        desk.say("feed f -4")
        self.assertEqual(desk.say("digits f 5 10"), "open -4")
        desk.say("feed f 7")
        self.assertEqual(desk.say("digits f 5 10"), "open -4+.1")
        desk.say("finish f")
        self.assertEqual(desk.say("digits f 5 10"), "all -4+.14285")
        # By 36 ** 8, and the root of five by whole numbers.
        whole = (36 ** 8 + isqrt(5 * 36 ** 16)) // 2
        signs = "0123456789abcdefghijklmnopqrstuvwxyz"
        right = "".join(signs[whole // 36 ** at % 36] for at in range(8))[::-1]
        self.assertEqual(desk.say("digits s 8 36"), f"all 1.{right}")
        desk.say("one n a floor 40 1,0/7,-22")
        self.assertEqual(desk.say("digits n 5 10"), "nought nothing")

    def test_parts(self):
        desk = small()
        self.assertEqual(desk.say("parts o"), "nothing")
        desk.say("ask o 0")
        self.assertEqual(desk.say("parts o"), self.parts_of(desk, "o"))
        self.assertEqual(len(desk.say("parts o").split(" ")), 2)
        self.assertEqual(desk.say("parts z"), "nothing")
        desk.say("feed f 3")
        self.assertEqual(desk.say("ask z 9"), "open 49/8 50/7")
        one, other = desk.net().stream("z").parts()
        right = " ".join(fraction_text(part) for part in one) + " / " + " ".join(fraction_text(part) for part in other)
        self.assertEqual(desk.say("parts z"), right)
        self.assertEqual(desk.say("ask r 9"), "open 3/2 2")
        self.assertEqual(desk.say("parts r"), self.parts_of(desk, "r"))
        desk.say("finish f")
        self.assertEqual((desk.say("ask z 9"), desk.say("parts z")), ("end", "nothing"))
        self.assertEqual((desk.say("ask r 9"), desk.say("parts r")), ("term 1", "nothing"))

    def parts_of(self, desk, name):
        return " ".join(fraction_text(part) for part in desk.net().stream(name).parts())

    def test_compare(self):
        desk = small()
        self.assertEqual(desk.say("compare e a 40"), "less 0")
        self.assertEqual(desk.say("compare a e 40"), "more 0")
        self.assertEqual(desk.say("compare e e 7"), "open 7")
        self.assertEqual(desk.say("compare a a 3"), "same")
        self.assertEqual(desk.say("compare a f 3"), "open 0")
        desk.say("one n a floor 40 1,0/7,-22")
        self.assertEqual(desk.say("compare n f 3"), "nought")

    def test_feed_and_finish(self):
        desk = small()
        self.assertEqual(desk.say("feed f -3"), "1")
        self.assertEqual(desk.say("feed f 2"), "2")
        with self.assertRaises(NoTerm) as caught:
            desk.say("feed f 0")
        self.assertEqual(caught.exception.found, 0)
        self.assertEqual(desk.say("feed f 1"), "3")
        with self.assertRaises(NoTerm) as caught:
            desk.say("finish f")
        self.assertEqual(caught.exception.found, 1)
        self.assertEqual(desk.say(f"feed f {10 ** 29}"), "4")
        self.assertEqual(desk.say("finish f"), "4")
        with self.assertRaises(Finished) as caught:
            desk.say("feed f 5")
        self.assertEqual(caught.exception.found, 5)
        with self.assertRaises(Finished) as caught:
            desk.say("finish f")
        self.assertEqual(caught.exception.found, [-3, 2, 1, 10 ** 29])
        with self.assertRaises(NoTerm) as caught:
            desk.say("finish g")
        self.assertIsNone(caught.exception.found)
        self.assertEqual(desk.say("read f 9"), f"-3 2 1 {10 ** 29} end")
        for many in range(1, 101):
            self.assertEqual(desk.say("feed g 3"), str(many))
        with self.assertRaises(TooMany) as caught:
            desk.say("feed g 3")
        self.assertEqual(caught.exception.many, 101)
        self.assertEqual(desk.say("finish g"), "100")

    def test_fed_by_a_name_that_was_put_in_anew(self):
        desk = told("fed a floor", "feed a 3", "feed a 7")
        # Feeding isn't undone: what is taken back is the putting in.
        self.assertEqual(desk.say("undo"), "put a")
        desk.say("fed a near")
        self.assertEqual(desk.say("feed a 5"), "1")
        self.assertEqual(desk.say("read a 5"), "5 open")
        self.assertEqual((desk.say("undo"), desk.say("feed a 6")), ("read a", "2"))
        self.assertEqual(desk.say("load fed a floor"), "1")
        self.assertEqual(desk.say("feed a 9"), "1")
        self.assertEqual(desk.say("counts"), "a 0")

    def test_undo(self):
        desk = small()
        desk.say("read e 3")
        desk.say("read a 1")
        self.assertEqual(desk.say("undo"), "read a")
        self.assertEqual(desk.say("undo"), "read e")
        self.assertEqual(len(desk.plan()), 8)
        for left, name in zip(range(7, -1, -1), "srzogfea"):
            self.assertEqual(desk.say("undo"), f"put {name}")
            self.assertEqual((len(desk.plan()), len(desk.net())), (left, left))
            self.assertEqual([row[1] for row in desk.plan()], desk.net().names())
        with self.assertRaises(NoBack):
            desk.say("undo")
        self.assertEqual((desk.say("plan"), desk.say("names")), ("nothing", "nothing"))

    def test_what_it_tells_is_the_askers_own(self):
        desk = small()
        desk.plan().append(3)
        self.assertEqual(len(desk.plan()), 8)
        self.assertIsNot(desk.plan(), desk.plan())
        self.assertIs(desk.net(), desk.net())
        self.assert_new_each_time(desk.plan)
        self.assertEqual(desk.plan(), read_plan(desk.say("plan").replace(" / ", "\n")))

    def test_of_numbers_of_thirty_figures(self):
        desk = told(f"row a near {THIRTY},{-THIRTY}", f"surd s {-THIRTY} {THIRTY} {THIRTY}",
                    f"ruled u floor {-THIRTY} {THIRTY} {THIRTY}")
        self.assertEqual(desk.say("read a 5"), f"{THIRTY} {-THIRTY} end")
        self.assertEqual(desk.say("read u 3"), f"{-THIRTY} {THIRTY} {2 * THIRTY} more")
        self.assertEqual(desk.say("ask s 0"), "term -1")
        self.assertEqual(desk.say("bounds a"), f"{THIRTY * THIRTY - 1}/{THIRTY} {THIRTY * THIRTY - 1}/{THIRTY}")


def text(thing):
    """One thing of an answer, as the words of the document tell."""
    if thing is None:
        return "nothing"
    if isinstance(thing, tuple):
        return fraction_text(thing)
    return str(thing)


def texts(things):
    things = [None] if list(things[-2:]) == [None, None] and len(things) == 2 else list(things)
    return " ".join(map(text, things)) or "nothing"


class AgainstANet(Asking):
    def test_line_by_line(self):
        for seed in range(25):
            chance = random.Random(seed)
            desk, net, plan = Desk(), net_of([]), []
            for _ in range(70):
                line = self.some_line(chance, list(ROWS.values()) + LINES, net.names())
                right = self.by_the_net(line, net, plan)
                if isinstance(right, tuple):
                    error, values = right
                    with self.assertRaises(error) as caught:
                        desk.say(line)
                    self.assertEqual(vars(caught.exception), values)
                else:
                    self.assertEqual(desk.say(line), right, line)
                self.assertEqual((desk.plan(), desk.net().names(), desk.net().counts()), (plan, net.names(), net.counts()))

    def some_line(self, chance, rows, names):
        if chance.random() < 0.25 or not names:
            return chance.choice(rows)
        one, other = chance.choices(names + ["x"], k=2)
        number = chance.choice((0, 1, 2, 3, 5, 12))
        return chance.choice((
            f"ask {one} {number}", f"read {one} {number}", f"bounds {one}", f"near {one} {number}",
            f"digits {one} {number} 10", f"compare {one} {other} {number}", f"feed f {number}", f"feed {one} {number}",
            "undo", "counts", "names", "plan", f"parts {one}", "finish f" if chance.random() < 0.1 else f"feed b {number}"))

    def by_the_net(self, line, net, plan):
        """The answer, or the refusal's class and fields, of the same done to a net."""
        try:
            return self.done(line.split(" "), line, net, plan)
        except (ValueError, LookupError) as refusal:
            return type(refusal), vars(refusal)

    def done(self, words, line, net, plan):
        word, names, numbers = words[0], [part for part in words[1:] if part.isalpha()], [
            int(part) for part in words[1:] if part.isdigit()]
        if line in ROWS.values() or line in LINES:
            row = read_plan(line)[0]
            built = net_of([]) if row[0] in ("one", "two", "root") else net_of([row])
            if row[0] == "surd":
                net.put_surd(row[1], Surd(*row[2:]))
            elif row[0] == "one":
                net.put_one(row[1], row[2], row[5], row[3], row[4])
            elif row[0] == "two":
                net.put_two(row[1], row[2], row[3], row[6], row[4], row[5])
            elif row[0] == "root":
                net.put_root(row[1], row[2], row[3])
            else:
                net.put(row[1], built.stream(row[1]))
            plan.append(row)
            return row[1]
        for name in names:
            net.stream(name)
        if word in ("plan", "names", "counts"):
            pairs = [part for pair in net.counts().items() for part in pair]
            return {"plan": plan_text(plan).replace("\n", " / "), "names": texts(net.names()),
                    "counts": texts(pairs)}[word] or "nothing"
        if word == "undo":
            found = net.undo()
            if found[0] == "put":
                plan.pop()
            return texts(found)
        stream = net.stream(names[0])
        if word in ("feed", "finish"):
            if type(stream).__name__ != "Fed":
                raise NoStream(names[0])
            stream.feed(numbers[0]) if word == "feed" else stream.finish()
            return str(len(stream._fed))
        if word == "ask":
            found = net.ask(names[0], numbers[0])
            return found[0] if len(found) == 1 else found[0] + " " + texts(found[1:])
        if word == "read":
            terms, behind = net.read(names[0], numbers[0])
            return texts([*terms, behind])
        if word == "bounds":
            return texts(stream.bounds())
        if word == "near":
            found = neighbours_of(stream, numbers[0])
            return found[0] if len(found) == 1 else found[0] + " " + texts(found[1:])
        if word == "digits":
            found = digits(stream, *numbers)
            return found[0] + " " + (digits_text(found[1]) if found[1] else "nothing")
        if word == "compare":
            return texts(compare(stream, net.stream(names[1]), numbers[0]))
        if type(stream).__name__ not in ("One", "Two", "Rooted"):
            raise NoStream(names[0])
        found = stream.parts()
        if found is None:
            return "nothing"
        return texts(found) if type(stream).__name__ != "Two" else texts(found[0]) + " / " + texts(found[1])
