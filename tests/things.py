"""Any things to hand in, what they are by plain words, and how refusals are asked."""

import copy
import unittest
from math import gcd

from termstream import errors


def any_things():
    """Things of all kinds, new ones each time."""
    deep = [1]
    for _ in range(5):
        deep = [deep]
    return [
        0, 1, -1, 2, -2, 3, 7, 200, 201, 10 ** 12, 10 ** 29, 1 - 10 ** 30, 10 ** 30,
        True, False, None,
        "", " ", "a", "z", "abcdef", "abcdefg", "A", "a1", "\n",
        "0", "-0", "007", "+7", "7 ", "-7", "22/7", "4/2", "4/1", "-3;7,15", "3;1", "3;7,1",
        "floor", "ceil", "near", "Floor", "floor ", "nearest", "told",
        [], (), {}, [1], (1,), [0], [2], [-2], [1, 1], [1, 2], [3, 1], [3, 7], [3, 0], [3, -7],
        [3, 2], [3, 2, 2], [3, 2, -2], [3, -2], [3, -2, 2], [3, 7, 1], [3, 7, 15],
        [True], [3, True], [3, None], ["3"], [3, "7"], [[3], 7],
        (0, 1), (22, 7), (-22, 7), (22, -7), (0, 2), (4, 2), (3, 1), (3, 0), (1, 0), (-1, 2),
        (True, 1), (1, True), (False, 1), (22, 7, 1), (22, None), ("22", "7"), (10 ** 29, 3),
        [22, 7], [4, 2],
        {"a": 1}, {1: (2, 3)}, {(22, 7): [3]}, {0: 22, 1: 7},
        [(22, 7)], ((3, 1), (22, 7)), [(3, 1), (22, 7)], ((3, 1), (22, 7), (4, 1)),
        ((0, 1), (1, 0)), (((1, 1), False), ((1, 0), True)),
        deep, ([{"a": [(1, None)]}],),
        errors.NoBack(), errors.NoRow([3]), errors.TooMany(5), errors.TermError("floor"),
    ]


def is_whole_number(thing):
    return type(thing) is int


def is_lowest(thing):
    """Whether the thing is a fraction, by the words of the document."""
    if type(thing) is not tuple or [type(part) for part in thing] != [int, int]:
        return False
    return thing[1] > 0 and gcd(*thing) == 1


def is_numbers(thing):
    return type(thing) in (list, tuple) and all(type(part) is int for part in thing)


def is_legal_floor(thing):
    """Whether the thing is a legal row of `floor`, by the words of the document."""
    if not is_numbers(thing) or not thing:
        return False
    return min(thing[1:], default=1) >= 1 and (len(thing) == 1 or thing[-1] > 1)


def all_but(fits):
    """All of the things that don't fit."""
    return [thing for thing in any_things() if not fits(thing)]


class Asking(unittest.TestCase):
    """A test that asks for refusals."""

    def assert_refused(self, error, thing, call, *handed, **named):
        """The call is refused with just this error, which holds the very thing."""
        before = copy.deepcopy([part for part in handed if not isinstance(part, Exception)])
        with self.assertRaises(error) as caught:
            call(*handed, **named)
        self.assertIs(type(caught.exception), error)
        field = {errors.TooMany: "many", errors.NoText: "line"}.get(error, "found")
        if error in (errors.TooMany, errors.NoBounds):
            self.assertEqual(getattr(caught.exception, field), thing)
        else:
            self.assertIs(getattr(caught.exception, field), thing)
        after = [part for part in handed if not isinstance(part, Exception)]
        self.assertEqual(repr(after), repr(before))

    def assert_all_refused(self, error, fits, call):
        """The call of one thing is refused for all things that don't fit."""
        for thing in all_but(fits):
            with self.subTest(thing=repr(thing)[:60]):
                self.assert_refused(error, thing, call, thing)

    def assert_new_each_time(self, call, *handed):
        """A list that is told is a new one each time, and the asker's own."""
        first = call(*handed)
        second = call(*handed)
        self.assertIs(type(first), list)
        self.assertEqual(first, second)
        self.assertIsNot(first, second)
        second.append("more")
        second[0] = "other"
        self.assertEqual(call(*handed), first)
