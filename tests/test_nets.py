import random

from termstream.errors import (
    Doubled, Flat, NoBack, NoManner, NoName, NoNumber, NoPlace, NoRows, NoStream, NoSurd, NotInNet, TooMany,
)
from termstream.nets import Net
from termstream.ones import One
from termstream.rooted import Rooted
from termstream.running import Running
from termstream.sources import Fed, Row, Ruled, Tail
from termstream.surds import Surd
from termstream.twos import Two
from tests.test_ones import PLAIN
from tests.test_streams import endless
from tests.test_twos import PRODUCT, SUM
from tests.things import (
    Asking, all_but, any_things, from_to, is_fit_name, is_four_rows, is_manner_word, is_steep, is_steep_four, is_stream,
    is_two_rows, picture,
)

DOUBLE = ((2, 0), (0, 1))
TWELVE = [sign * (at % 6 + 1) for at, sign in enumerate("abcdefghijkl")]


def small():
    """A net of one name for each of the five ways."""
    net = Net()
    net.put("e", endless())
    net.put_surd("s", Surd(1, 5, 2))
    net.put_one("d", "e", DOUBLE)
    net.put_two("z", "e", "s", SUM, "near", 7)
    net.put_root("r", "z", 9)
    return net


def full():
    net = Net()
    for name in TWELVE:
        net.put(name, Row([3]))
    return net


class Putting(Asking):
    def test_ways_names_and_streams(self):
        net = small()
        self.assertEqual(net.names(), ["e", "s", "d", "z", "r"])
        self.assertEqual(len(net), 5)
        self.assertEqual([net.way(name) for name in net.names()], [
            ("stream",), ("surd", 1, 5, 2), ("one", "e", DOUBLE, "floor", 40), ("two", "e", "s", SUM, "near", 7),
            ("root", "z", 9)])
        self.assertEqual([type(net.stream(name)).__name__ for name in net.names()],
                         ["Ruled", "Running", "One", "Two", "Rooted"])
        self.assertEqual([net.stream(name).depth() for name in net.names()], [0, 0, 1, 1, 2])

    def test_nothing_is_told_by_putting_in(self):
        net = Net()
        self.assertEqual((net.names(), len(net), net.counts()), ([], 0, {}))
        self.assertIsNone(net.put("a", Row([3, 7])))
        self.assertIsNone(net.put_surd("b", Surd(0, 2)))
        self.assertIsNone(net.put_one("c", "a", DOUBLE))
        self.assertIsNone(net.put_two("d", "a", "a", SUM))
        self.assertIsNone(net.put_root("f", "a"))
        self.assertEqual(net.way("d"), ("two", "a", "a", SUM, "floor", 40))
        self.assertEqual(net.way("f"), ("root", "a", 40))
        self.assertEqual(net.counts(), {"a": 0, "b": 0, "c": 0, "d": 0, "f": 0})

    def test_they_are_the_very_streams(self):
        net, stream = Net(), endless()
        net.put("e", stream)
        net.put("f", stream)
        self.assertIs(net.stream("e"), stream)
        self.assertIs(net.stream("f"), stream)
        net.put_one("d", "e", DOUBLE, manner="near", most=3)
        self.assertIs(net.stream("d"), net.stream("d"))
        net.ask("d", 3)
        self.assertEqual(net.counts()["e"], stream.asked())
        machine = One(DOUBLE, endless(), "near", 3)
        machine.ask(3)
        self.assertEqual(net.stream("d").state(), machine.state())
        deep = Tail(net.stream("d"), 1)
        net.put("t", deep)
        self.assertEqual(net.way("t"), ("stream",))

    def test_a_surd_that_is_a_fraction(self):
        net = Net()
        net.put_surd("half", Surd(-1, 4, -2))
        self.assertEqual(net.way("half"), ("surd", -1, 4, -2))
        self.assertEqual(net.read("half", 9), ([-1, 2], "end"))

    def test_each_tells_what_its_machine_tells(self):
        net = small()
        self.assertEqual(net.read("d", 30), One(DOUBLE, endless()).terms(30))
        sums = Two(SUM, endless(), Running(Surd(1, 5, 2)), "near", 7)
        self.assertEqual(net.read("z", 10), sums.terms(10))
        root = Rooted(Two(SUM, endless(), Running(Surd(1, 5, 2)), "near", 7), 9)
        self.assertEqual(net.ask("r", 9), root.ask(9))

    def test_twelve_names_and_a_thirteenth(self):
        net = full()
        self.assertEqual((net.names(), len(net)), (TWELVE, 12))
        before = picture(net)
        for call, handed in self.puttings("m"):
            self.assert_refused(TooMany, 13, getattr(net, call), *handed)
        self.assert_refused(Doubled, "a", net.put, "a", Row([3]))
        self.assertEqual(picture(net), before)
        net.undo()
        net.put("m", Row([3]))
        self.assertEqual(net.names(), TWELVE[:11] + ["m"])

    def puttings(self, name):
        """All five ways of putting in, of the names of a full net."""
        return (("put", (name, Row([3]))), ("put_surd", (name, Surd(0, 2))), ("put_one", (name, "a", DOUBLE)),
                ("put_two", (name, "a", "bb", SUM)), ("put_root", (name, "a")))

    def test_a_name_told_twice(self):
        net = small()
        for name in net.names():
            for call, handed in (("put", (name, endless())), ("put_surd", (name, Surd(0, 2))),
                                 ("put_one", (name, "e", DOUBLE)), ("put_two", (name, "e", "e", SUM)),
                                 ("put_root", (name, "e"))):
                before = picture(net)
                self.assert_refused(Doubled, name, getattr(net, call), *handed)
                self.assertEqual(picture(net), before)

    def test_too_deep(self):
        net = Net()
        net.put("a", endless())
        for name, source in zip("bcde", "abcd"):
            net.put_one(name, source, PLAIN)
        self.assertEqual(net.stream("e").depth(), 4)
        for name in ("f", "a"):
            self.assert_refused(TooMany, 5, net.put_one, name, "e", PLAIN)
            self.assert_refused(TooMany, 5, net.put_two, name, "a", "e", SUM)
            self.assert_refused(TooMany, 5, net.put_two, name, "e", "a", SUM)
            self.assert_refused(TooMany, 5, net.put_root, name, "e")
        self.assertEqual(net.read("e", 30), endless().terms(30))
        self.assertEqual(len(net), 5)

    def test_refused_of_any_thing(self):
        net = small()
        before = picture(net)
        for thing in any_things():
            if not is_fit_name(thing):
                self.assert_refused(NoName, thing, net.put, thing, Row([3]))
                self.assert_refused(NoName, thing, net.put, thing, None)
                self.assert_refused(NoName, thing, net.put_surd, thing, None)
                self.assert_refused(NoName, thing, net.put_one, thing, None, None, None, None)
                self.assert_refused(NoName, thing, net.put_two, thing, None, None, None, None, None)
                self.assert_refused(NoName, thing, net.put_root, thing, None, None)
            if not is_stream(thing):
                self.assert_refused(NoStream, thing, net.put, "x", thing)
                self.assert_refused(NoStream, thing, net.put, "e", thing)
            if not isinstance(thing, Surd):
                self.assert_refused(NoSurd, thing, net.put_surd, "x", thing)
                self.assert_refused(NoSurd, thing, net.put_surd, "e", thing)
            if thing not in ("e", "s", "d", "z", "r"):
                self.assert_refused(NotInNet, thing, net.put_one, "x", thing, None, None, None)
                self.assert_refused(NotInNet, thing, net.put_two, "e", thing, None, None, None, None)
                self.assert_refused(NotInNet, thing, net.put_two, "x", "e", thing, None, None, None)
                self.assert_refused(NotInNet, thing, net.put_root, "e", thing, None)
        self.assertEqual(picture(net), before)

    def test_rows_manners_and_most_of_any_thing(self):
        net = small()
        before = picture(net)
        for thing in any_things():
            for right, steep, call, sources in ((is_two_rows, is_steep, net.put_one, ("e",)),
                                                (is_four_rows, is_steep_four, net.put_two, ("e", "s"))):
                if not right(thing):
                    self.assert_refused(NoRows, thing, call, "e", *sources, thing, None, None)
                elif not steep(thing):
                    self.assert_refused(Flat, thing, call, "e", *sources, thing, None, None)
                rows = DOUBLE if call == net.put_one else SUM
                if not is_manner_word(thing):
                    self.assert_refused(NoManner, thing, call, "e", *sources, rows, thing, None)
                if not from_to(1, 64)(thing):
                    self.assert_refused(NoNumber, thing, call, "e", *sources, rows, "near", thing)
                    self.assert_refused(NoNumber, thing, call, "x", *sources, rows, most=thing)
            if not from_to(1, 64)(thing):
                self.assert_refused(NoNumber, thing, net.put_root, "e", "e", thing)
                self.assert_refused(NoNumber, thing, net.put_root, "e", "e", most=thing)
        self.assertEqual(picture(net), before)


class Asked(Asking):
    def test_asking(self):
        net = small()
        stream = endless()
        for place in (3, 0, 9, 999):
            self.assertEqual(net.ask("e", place), stream.ask(place))
        fed = Fed()
        net.put("f", fed)
        self.assertEqual(net.ask("f", 0), ("open", None, None))
        fed.feed(3)
        self.assertEqual(net.ask("f", 5), ("open", (3, 1), (4, 1)))
        net.put("n", Tail(Row([3]), 1))
        self.assertEqual(net.ask("n", 5), ("nought",))
        self.assertEqual(net.counts(), {"e": 1000, "s": 0, "d": 0, "z": 0, "r": 0, "f": 1, "n": 0})
        self.assertEqual(list(net.counts()), ["e", "s", "d", "z", "r", "f", "n"])

    def test_told_anew(self):
        net = small()
        net.names().append("x")
        net.counts()["x"] = 3
        self.assertEqual((net.names(), list(net.counts())), (["e", "s", "d", "z", "r"],) * 2)
        self.assertIsNot(net.counts(), net.counts())
        self.assert_new_each_time(net.names)
        found = net.read("e", 3)
        found[0].append(7)
        self.assertEqual(net.stream("e").terms(3)[0], [2, 1, 2])

    def test_asking_takes_no_terms(self):
        net = small()
        for name in net.names():
            net.way(name)
            net.place(name)
            net.stream(name)
        self.assertEqual(set(net.counts().values()), {0})

    def test_refused(self):
        net = small()
        net.read("e", 400)
        before = picture(net)
        for thing in any_things():
            if thing not in ("e", "s", "d", "z", "r"):
                for call in (net.stream, net.way, net.place, net.read):
                    self.assert_refused(NotInNet, thing, call, thing)
                self.assert_refused(NotInNet, thing, net.ask, thing, None)
                self.assert_refused(NotInNet, thing, net.read, thing, None)
            if not from_to(0, 999)(thing):
                self.assert_refused(NoPlace, thing, net.ask, "e", thing)
            if not from_to(1, 1000)(thing):
                self.assert_refused(NoNumber, thing, net.read, "s", thing)
                self.assert_refused(NoNumber, thing, net.read, "s", many=thing)
            if not from_to(1, 600)(thing):
                self.assert_refused(NoNumber, thing, net.read, "e", thing)
        self.assertEqual(picture(net), before)


class Reading(Asking):
    def test_by_one_and_by_many(self):
        net = small()
        row = endless().terms(1000)[0]
        self.assertEqual(net.place("e"), 0)
        self.assertEqual(net.read("e"), ([2], "more"))
        self.assertEqual(net.read("e", 1), ([1], "more"))
        self.assertEqual(net.read("e", many=5), (row[2:7], "more"))
        self.assertEqual((net.place("e"), net.place("s")), (7, 0))
        net.ask("e", 50)
        self.assertEqual(net.place("e"), 7)
        self.assertEqual(net.read("e"), ([row[7]], "more"))

    def test_up_to_999_and_1000(self):
        net = small()
        row = endless().terms(1000)[0]
        self.assertEqual(net.read("e", 999), (row[:999], "more"))
        self.assertEqual(net.place("e"), 999)
        self.assert_refused(NoNumber, 2, net.read, "e", 2)
        self.assertEqual(net.read("e", 1), (row[999:], "more"))
        self.assertEqual(net.place("e"), 1000)
        for many in (0, 1, 1000):
            self.assert_refused(NoNumber, many, net.read, "e", many)
        net.undo()
        self.assertEqual(net.read("e"), (row[999:], "more"))
        self.assertEqual(net.read("s", 1000), ([1] * 1000, "more"))
        self.assert_refused(NoNumber, 1, net.read, "s")

    def test_of_streams_that_end_are_open_or_nought(self):
        net, fed = Net(), Fed()
        net.put("end", Row([3, 7]))
        net.put("fed", fed)
        net.put("no", Tail(Row([3]), 1))
        self.assertEqual(net.read("end", 2), ([3, 7], "more"))
        for _ in range(2):
            self.assertEqual(net.read("end", 900), ([], "end"))
            self.assertEqual(net.place("end"), 2)
            self.assertEqual(net.read("fed"), ([], "open"))
            self.assertEqual(net.read("no", 3), ([], "nought"))
        fed.feed(3)
        fed.feed(7)
        self.assertEqual(net.read("fed"), ([3], "more"))
        self.assertEqual(net.read("fed", 5), ([7], "open"))
        self.assertEqual(net.place("fed"), 2)
        fed.finish()
        self.assertEqual(net.read("fed", 5), ([], "end"))
        self.assertEqual([net.place(name) for name in net.names()], [2, 2, 0])


class Undone(Asking):
    def test_until_there_is_none(self):
        net = small()
        net.read("e", 5)
        net.read("s")
        net.read("e")
        net.read("d", 2)
        self.assertEqual(net.undo(), ("read", "d"))
        self.assertEqual(net.place("d"), 0)
        self.assertEqual(net.undo(), ("read", "e"))
        self.assertEqual(net.place("e"), 5)
        self.assertEqual(net.undo(), ("read", "s"))
        self.assertEqual(net.undo(), ("read", "e"))
        self.assertEqual((net.place("e"), net.counts()["e"] >= 6), (0, True))
        for left, name in zip((4, 3, 2, 1, 0), ("r", "z", "d", "s", "e")):
            self.assertEqual(net.undo(), ("put", name))
            self.assertEqual(len(net), left)
            self.assert_refused_name(net, name)
        for _ in range(2):
            with self.assertRaises(NoBack):
                net.undo()
        self.assertEqual((net.names(), net.counts()), ([], {}))

    def assert_refused_name(self, net, name):
        for call in (net.stream, net.way, net.place, net.read):
            self.assert_refused(NotInNet, name, call, name)

    def test_what_is_refused_is_not_taken_back(self):
        net = Net()
        net.put("a", Row([3, 7]))
        self.assert_refused(Doubled, "a", net.put, "a", Row([3]))
        self.assert_refused(NoNumber, 0, net.read, "a", 0)
        net.ask("a", 1)
        self.assertEqual(net.undo(), ("put", "a"))
        with self.assertRaises(NoBack):
            net.undo()

    def test_a_reading_of_no_terms(self):
        net = Net()
        net.put("a", Row([3]))
        net.read("a")
        self.assertEqual(net.read("a"), ([], "end"))
        self.assertEqual(net.undo(), ("read", "a"))
        self.assertEqual(net.place("a"), 1)
        self.assertEqual(net.undo(), ("read", "a"))
        self.assertEqual(net.place("a"), 0)

    def test_a_name_put_in_anew(self):
        net = Net()
        net.put("a", Row([3]))
        net.put("b", Row([4, 5]))
        net.read("b", 2)
        net.undo()
        net.undo()
        net.put("c", Row([6]))
        net.put_surd("b", Surd(0, 2))
        self.assertEqual((net.names(), net.place("b"), net.way("b")), (["a", "c", "b"], 0, ("surd", 0, 2, 1)))
        self.assertEqual(net.read("b", 3), ([1, 2, 2], "more"))
        self.assertEqual(net.undo(), ("read", "b"))

    def test_what_streams_have_made_they_keep(self):
        net, stream = Net(), endless()
        net.put("a", stream)
        net.put_two("p", "a", "a", PRODUCT)
        net.read("p", 9)
        made = stream.made()
        net.undo()
        net.undo()
        self.assertEqual((stream.made(), net.names()), (made, ["a"]))

    def test_by_turns_against_a_list(self):
        chance = random.Random(105)
        for _ in range(40):
            net, done = Net(), []
            rows = {}
            for _ in range(60):
                kind = chance.choice(("put", "read", "read", "undo"))
                if kind == "put" and len(net) < 12:
                    name = chance.choice([name for name in TWELVE if name not in rows])
                    rows[name] = 0
                    net.put(name, Ruled([1], [2, 3]))
                    done.append(("put", name, None))
                elif kind == "read" and rows:
                    name, many = chance.choice(list(rows)), chance.randint(1, 5)
                    net.read(name, many)
                    done.append(("read", name, rows[name]))
                    rows[name] += many
                elif kind == "undo" and done:
                    word, name, place = done.pop()
                    self.assertEqual(net.undo(), (word, name))
                    if word == "put":
                        del rows[name]
                    else:
                        rows[name] = place
                self.assertEqual({name: net.place(name) for name in net.names()}, rows)
                self.assertEqual(net.names(), list(rows))

    def test_no_more_names_than_the_bounds_of_any_thing(self):
        for thing in all_but(is_fit_name):
            self.assert_refused(NoName, thing, Net().put, thing, Row([3]))
