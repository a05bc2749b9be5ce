"""Any things to hand in, what they are by plain words, and how refusals are asked."""

import unittest
from math import gcd

from termstream import errors
from termstream.desk import Desk
from termstream.machines import Machine
from termstream.nets import Net
from termstream.ones import One
from termstream.rooted import Rooted
from termstream.running import Running
from termstream.sources import Fed, Row, Ruled, Tail
from termstream.streams import Stream
from termstream.surds import Surd
from termstream.twos import Two


def any_things():
    """Things of all kinds, new ones each time."""
    deep = [1]
    for _ in range(5):
        deep = [deep]
    return [
        0, 1, -1, 2, -2, 3, 7, 200, 201, 10 ** 12, 10 ** 29, 1 - 10 ** 30, 10 ** 30,
        True, False, None,
        "", " ", "a", "z", "abcdef", "abcdefg", "A", "a1", "\n",
        "0", "-0", "007", "+7", "7 ", "-7", "22/7", "4/2", "4/1", "-3;7,15", "3;1", "3;7,1",
        "floor", "ceil", "near", "Floor", "floor ", "nearest", "told",
        [], (), {}, [1], (1,), [0], [2], [-2], [1, 1], [1, 2], [3, 1], [3, 7], [3, 0], [3, -7],
        [3, 2], [3, 2, 2], [3, 2, -2], [3, -2], [3, -2, 2], [3, 7, 1], [3, 7, 15],
        [True], [3, True], [3, None], ["3"], [3, "7"], [[3], 7],
        (0, 1), (22, 7), (-22, 7), (22, -7), (0, 2), (4, 2), (3, 1), (3, 0), (1, 0), (-1, 2),
        (True, 1), (1, True), (False, 1), (22, 7, 1), (22, None), ("22", "7"), (10 ** 29, 3),
        [22, 7], [4, 2],
        {"a": 1}, {1: (2, 3)}, {(22, 7): [3]}, {0: 22, 1: 7},
        [(22, 7)], ((3, 1), (22, 7)), [(3, 1), (22, 7)], ((3, 1), (22, 7), (4, 1)),
        ((0, 1), (1, 0)), (((1, 1), False), ((1, 0), True)),
        ((1, 2), (2, 4)), ((0, 0), (0, 0)), ((1, 2), (3, 4), (5, 6)), ((1, 2), [3, 4]), [(1, 2), (3, 4)],
        ((1, 2), (3, True)), ((1, 2, 3), (4, 5, 6)), ((1, 2),), ((1,), (2,)), ((1, 2), None),
        4, 5, 20, 60, 61, 64, 65, 100, 400, 401, 999, 1000, 1001, 10 ** 12 + 1,
        deep, ([{"a": [(1, None)]}],),
        errors.NoBack(), errors.NoRow([3]), errors.TooMany(5), errors.TermError("floor"),
        *streams_of_each_kind(), Surd(1, 5, 2), Surd(3, 0), [Row([3])], (Surd(3, 0),), small_net(), small_desk(),
        ((0, 1, 1, 0), (0, 0, 0, 1)), [(0, 1, 1, 0), (0, 0, 0, 1)], ((0, 1, 1, 0), [0, 0, 0, 1]),
        ((0, 1, 1, 0), (0, 0, 1)), ((0, 1, 1, True), (0, 0, 0, 1)), ((0, 1, 1, 0), (0, 0, 0, 1), (0, 0, 0, 1)),
        ((0, 0, 0, 0), (0, 0, 0, 1)), ((0, 1, 1, 0), (0, 0, 0, 0)), ((2, -4, 6, 8), (-3, 6, -9, -12)),
        ("fed", "a", "floor"), [("fed", "a", "floor")], "fed a floor", "ask a 0", "load ",
    ]


def streams_of_each_kind():
    """Streams of each kind, new ones each time."""
    fed = Fed("ceil")
    fed.feed(3)
    return [
        Row([3, 7]), Ruled([2], [1, 2, 1], [0, 2, 0]), fed, Tail(Row([3, 7, 2]), 1),
        One(((1, 2), (3, 4)), Row([3, -7], "near"), "ceil"), Running(Surd(1, 5, 2)), Rooted(Row([3, 7])),
        Two(((0, 1, 1, 0), (0, 0, 0, 1)), Row([3, 7]), Row([3, -7], "near"), "near"),
    ]


def small_net():
    net = Net()
    net.put("a", Row([3, 7]))
    net.put_root("b", "a")
    net.read("b")
    return net


def small_desk():
    desk = Desk()
    desk.say("row a floor 3,7")
    desk.say("read a 1")
    return desk


def picture(thing):
    """What a thing is now: a stream by what it has made and taken."""
    if isinstance(thing, Stream):
        more = thing.state() if isinstance(thing, Machine) else None
        if isinstance(thing, Rooted):
            more = thing.taken()
        return (id(thing), thing.made(), repr(thing.bounds()), repr(more))
    if isinstance(thing, Net):
        names = thing.names()
        ways = [(name, thing.way(name), thing.place(name)) for name in names]
        return (id(thing), ways, [picture(thing.stream(name)) for name in names])
    if isinstance(thing, Desk):
        return (id(thing), picture(thing.net()), repr(thing.plan()))
    if isinstance(thing, (list, tuple)):
        return (type(thing), [picture(part) for part in thing])
    if isinstance(thing, dict):
        return [(key, picture(part)) for key, part in thing.items()]
    return id(thing) if isinstance(thing, Exception) else repr(thing)


def is_whole_number(thing):
    return type(thing) is int


def is_lowest(thing):
    """Whether the thing is a fraction, by the words of the document."""
    if type(thing) is not tuple or [type(part) for part in thing] != [int, int]:
        return False
    return thing[1] > 0 and gcd(*thing) == 1


def is_numbers(thing):
    return type(thing) in (list, tuple) and all(type(part) is int for part in thing)


def is_manner_word(thing):
    return isinstance(thing, str) and thing in ("floor", "ceil", "near")


def is_two_rows(thing):
    """Whether the thing is rows of a machine of one stream, by the words of the document."""
    if type(thing) is not tuple or [type(part) for part in thing] != [tuple, tuple]:
        return False
    return all([type(part) for part in row] == [int, int] for row in thing)


def is_steep(thing):
    """Whether the thing is such rows, and they aren't flat."""
    return is_two_rows(thing) and thing[0][0] * thing[1][1] != thing[0][1] * thing[1][0]


def is_four_rows(thing):
    """Whether the thing is rows of a machine of two streams, by the words of the document."""
    if type(thing) is not tuple or [type(part) for part in thing] != [tuple, tuple]:
        return False
    return all([type(part) for part in row] == [int] * 4 for row in thing)


def in_one_proportion(rows):
    """Whether the one four is a multiple of the other one, or all of one are nought."""
    if not any(rows[0]) or not any(rows[1]):
        return True
    top, bottom = [[number for number in row] for row in rows]
    at = [place for place in range(4) if bottom[place]][0]
    return all(part * bottom[at] == other * top[at] for part, other in zip(top, bottom))


def is_steep_four(thing):
    """Whether the thing is such rows, and they aren't flat."""
    return is_four_rows(thing) and not in_one_proportion(thing)


def is_fit_name(thing):
    """Whether the thing is a name, by the words of the document."""
    return type(thing) is str and 1 <= len(thing) <= 6 and not set(thing) - set("abcdefghijklmnopqrstuvwxyz")


def is_stream(thing):
    return isinstance(thing, Stream)


def from_to(low, high):
    """Whether things are whole numbers from low to high."""
    return lambda thing: type(thing) is int and low <= thing <= high


def is_legal_floor(thing):
    """Whether the thing is a legal row of `floor`, by the words of the document."""
    if not is_numbers(thing) or not thing:
        return False
    return min(thing[1:], default=1) >= 1 and (len(thing) == 1 or thing[-1] > 1)


def all_but(fits):
    """All of the things that don't fit."""
    return [thing for thing in any_things() if not fits(thing)]


class Asking(unittest.TestCase):
    """A test that asks for refusals."""

    def assert_refused(self, error, thing, call, *handed, **named):
        """The call is refused with just this error, which holds the very thing."""
        before = picture([*handed, *named.values()])
        with self.assertRaises(error) as caught:
            call(*handed, **named)
        self.assertIs(type(caught.exception), error)
        field = {errors.TooMany: "many", errors.NoText: "line"}.get(error, "found")
        if error in (errors.TooMany, errors.NoBounds):
            self.assertIs(type(getattr(caught.exception, field)), type(thing))
            self.assertEqual(getattr(caught.exception, field), thing)
        else:
            self.assertIs(getattr(caught.exception, field), thing)
        self.assertEqual(picture([*handed, *named.values()]), before)

    def assert_all_refused(self, error, fits, call):
        """The call of one thing is refused for all things that don't fit."""
        for thing in all_but(fits):
            with self.subTest(thing=repr(thing)[:60]):
                self.assert_refused(error, thing, call, thing)

    def assert_new_each_time(self, call, *handed):
        """A list that is told is a new one each time, and the asker's own."""
        first = call(*handed)
        second = call(*handed)
        self.assertIs(type(first), list)
        self.assertEqual(first, second)
        self.assertIsNot(first, second)
        second.append("more")
        second[0] = "other"
        self.assertEqual(call(*handed), first)
