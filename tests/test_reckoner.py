import random
from fractions import Fraction
from math import isqrt

from termstream.errors import NoNumber, NotInNet
from termstream.nets import Net
from termstream.ones import One
from termstream.reckoner import reckoned
from termstream.rooted import Rooted
from termstream.sources import Fed, Row, Ruled, Tail
from termstream.surds import Surd
from tests.search import MANNERS, fractions_to, row_by_rule, told, value
from tests.test_streams import endless, fed
from tests.test_twos import DIFFERENCE, FOUR, PRODUCT, QUOTIENT, ROWS, SUM, number_by_rule
from tests.things import Asking, any_things, from_to

DOUBLE = ((2, 0), (0, 1))
FINE = Fraction(1, 10 ** 25)


def net_of_one(stream):
    net = Net()
    net.put("a", stream)
    return net


def corner_values(rows, sides):
    """The values at all corners, or None where bottoms there aren't of one sign, or one is nought."""
    corners = [[]]
    for side in sides:
        corners = [[*corner, end] for corner in corners for end in side]
    tops, bottoms = [], []
    for corner in corners:
        factors = [corner[0], 1] if len(corner) == 1 else [corner[0] * corner[1], corner[0], corner[1], 1]
        tops.append(sum(part * factor for part, factor in zip(rows[0], factors)))
        bottoms.append(sum(part * factor for part, factor in zip(rows[1], factors)))
    if not (min(bottoms) > 0 or max(bottoms) < 0):
        return None
    numbers = [Fraction(top) / bottom for top, bottom in zip(tops, bottoms)]
    return min(numbers), max(numbers)


class OfStreams(Asking):
    def test_of_fewer_terms_just_as_many_and_more(self):
        for manner, number in zip(MANNERS, ((355, 113), (-355, 113), (17, 5))):
            row = row_by_rule(value(number), manner)
            for deep in range(1, len(row) + 3):
                net = net_of_one(Row(row, manner))
                found = reckoned(net, "a", deep)
                if deep > len(row):
                    self.assertEqual(found, (number, number))
                    continue
                # Just as many don't tell that there are no more.
                first = fed(row[:deep], manner)
                first.ask(deep)
                self.assertEqual(found, first.bounds())
                self.assertEqual(net.counts(), {"a": deep})
                self.assertTrue(value(found[0]) <= value(number) <= value(found[1]) and found[0] != found[1])

    def test_asked_ahead_by_more(self):
        right = {deep: reckoned(net_of_one(endless()), "a", deep) for deep in (1, 2, 9, 60)}
        net = net_of_one(endless())
        net.ask("a", 99)
        for deep, found in right.items():
            self.assertEqual(reckoned(net, "a", deep), found)
        self.assertEqual(right[1], ((2, 1), (3, 1)))
        self.assertEqual(net.counts(), {"a": 100})
        net = net_of_one(Row([3, 7]))
        net.ask("a", 999)
        self.assertEqual(reckoned(net, "a", 2), ((25, 8), (22, 7)))
        self.assertEqual(reckoned(net, "a", 3), ((22, 7), (22, 7)))
        self.assertEqual(reckoned(net, "a", 1), ((3, 1), (4, 1)))

    def test_open_and_nought(self):
        self.assertIsNone(reckoned(net_of_one(Fed()), "a", 60))
        self.assertIsNone(reckoned(net_of_one(Tail(Row([3]), 1)), "a", 1))
        self.assertEqual(reckoned(net_of_one(fed([3, 7])), "a", 60), ((25, 8), (22, 7)))
        self.assertEqual(reckoned(net_of_one(fed([3, 7])), "a", 1), ((3, 1), (4, 1)))
        stream = fed([3, 7], finished=True)
        self.assertEqual(reckoned(net_of_one(stream), "a", 2), ((25, 8), (22, 7)))
        self.assertEqual(reckoned(net_of_one(stream), "a", 3), ((22, 7), (22, 7)))

    def test_a_machine_put_in_as_it_is(self):
        # It is asked, and bounded by its own terms, not by what it took.
        inner = endless()
        machine = One(DOUBLE, inner)
        net = net_of_one(machine)
        self.assertEqual(reckoned(net, "a", 1), ((5, 1), (6, 1)))
        self.assertEqual(machine.asked(), 1)
        self.assertEqual(reckoned(net, "a", 3), self.bounds_of([5, 2, 3]))
        net = net_of_one(Rooted(Row([9])))
        self.assertEqual(reckoned(net, "a", 2), ((3, 1), (3, 1)))

    def bounds_of(self, terms):
        stream = fed(terms)
        stream.ask(len(terms))
        return stream.bounds()

    def test_a_surds(self):
        net = Net()
        net.put_surd("s", Surd(1, 5, 2))
        net.put_surd("half", Surd(-1, 4, 2))
        self.assertEqual(reckoned(net, "s", 1), ((1, 1), (2, 1)))
        self.assertEqual(reckoned(net, "s", 3), ((3, 2), (5, 3)))
        self.assertEqual(reckoned(net, "half", 2), ((1, 3), (1, 2)))
        self.assertEqual(reckoned(net, "half", 3), ((1, 2), (1, 2)))
        self.assertEqual(net.counts(), {"s": 3, "half": 2})


class OfMachines(Asking):
    def test_at_the_corners(self):
        chance = random.Random(107)
        noughts = 0
        for _ in range(400):
            net = Net()
            for name in "xy":
                manner = chance.choice(MANNERS)
                row = row_by_rule(value(chance.choice(fractions_to(9, 3))), manner)
                net.put(name, Row(row, manner))
            rows = chance.choice(ROWS)
            one = chance.choice((((2, 0), (0, 1)), ((1, 2), (-3, 4)), ((0, 1), (1, 0)), ((1, 0), (2, -5))))
            net.put_one("o", "x", one, chance.choice(MANNERS))
            net.put_two("t", "x", "y", rows, chance.choice(MANNERS))
            net.put_two("s", "t", "o", SUM)
            deep = chance.randint(1, 5)
            sides = {name: tuple(map(value, reckoned(net, name, deep))) for name in "xy"}
            sides["o"] = corner_values(one, [sides["x"]])
            sides["t"] = corner_values(rows, [sides["x"], sides["y"]])
            sides["s"] = None
            if sides["o"] is not None and sides["t"] is not None:
                sides["s"] = corner_values(SUM, [sides["t"], sides["o"]])
            for name in "ots":
                right = sides[name]
                self.assertEqual(reckoned(net, name, deep), None if right is None else tuple(map(told, right)))
                noughts += right is None
                self.assertEqual(net.stream(name).asked(), 0)
        self.assertTrue(60 < noughts < 400, noughts)

    def test_no_machine_that_was_put_in_by_names_is_asked(self):
        net = Net()
        net.put("e", endless())
        net.put_one("d", "e", DOUBLE)
        net.put_two("z", "d", "e", PRODUCT)
        net.put_root("r", "z")
        for deep in (1, 9, 60):
            for name in net.names():
                reckoned(net, name, deep)
            self.assertEqual(net.counts(), {"e": deep, "d": 0, "z": 0, "r": 0})
        for name in "dzr":
            self.assertEqual(net.stream(name).made(), [])
        self.assertEqual(net.stream("d").state()[0], ((),))
        self.assertEqual(net.stream("r").taken(), [])

    def test_one_number_told_twice(self):
        net = Net()
        net.put("a", Row([3, 7]))
        net.put("b", Row([1, -2], "near"))
        for name, rows in zip(("p", "q", "r", "s"), FOUR):
            net.put_two(name, "a", "b", rows)
            right = told(number_by_rule(rows, ((22, 7), (1, 2))))
            self.assertEqual(reckoned(net, name, 3), (right, right))
        net.put_two("t", "p", "q", PRODUCT)
        right = told(Fraction(51, 14) * Fraction(37, 14))
        self.assertEqual(reckoned(net, "t", 60), (right, right))

    def test_bottoms_of_nought_and_of_unlike_signs(self):
        net = Net()
        net.put("a", Row([0, 2, 2]))
        net.put("b", Row([3, 2]))
        net.put_two("q", "b", "a", QUOTIENT)
        # By one term a is from 0 to 1; 0 is a corner here.
        self.assertIsNone(reckoned(net, "q", 1))
        # By two it is from 1/3 to 1/2, and b from 10/3 to 7/2.
        self.assertEqual(reckoned(net, "q", 2), ((20, 3), (21, 2)))
        net.put_one("u", "b", ((1, 0), (2, -7)))
        self.assertIsNone(reckoned(net, "u", 1))
        self.assertIsNone(reckoned(net, "u", 2))
        self.assertIsNone(reckoned(net, "u", 60))
        # Top and bottom both nought at a corner hinder here, too: 1 / 1 less the 1 of either.
        net.put_one("v", "b", ((1, 0), (1, -3)))
        self.assertIsNone(reckoned(net, "v", 1))
        net.put_two("w", "b", "b", ((1, -3, 0, 0), (0, 0, 1, -3)))
        self.assertIsNone(reckoned(net, "w", 1))
        # What stands on nothing is nothing.
        net.put_two("x", "w", "a", SUM)
        net.put_root("y", "w")
        net.put_one("z", "w", DOUBLE)
        for name in "xyz":
            self.assertIsNone(reckoned(net, name, 1))

    def test_the_difference_of_a_stream_and_itself(self):
        net = Net()
        net.put("e", endless())
        net.put_two("d", "e", "e", DIFFERENCE)
        low, high = map(value, reckoned(net, "d", 60))
        self.assertTrue(low < 0 < high and low == -high)


class OfRoots(Asking):
    def test_they_hold_the_root(self):
        for number in [part for part in fractions_to(9, 4) if part[0] >= 0] + [(10 ** 29 + 1, 3), (1, 10 ** 29)]:
            net = net_of_one(Row(row_by_rule(value(number), "near"), "near"))
            net.put_root("r", "a")
            low, high = map(value, reckoned(net, "r", 60))
            self.assertTrue(0 <= low and low * low <= value(number) <= high * high, number)
            self.assertLessEqual(high - low, FINE)
            for deep in (1, 2, 3):
                low, high = map(value, reckoned(net, "r", deep))
                self.assertTrue(0 <= low and low * low <= value(number) <= high * high)

    def test_of_nought_and_below(self):
        for row, manner, right in (([0], "floor", ((0, 1), (0, 1))), ([-1], "floor", None), ([-1, -3], "near", None)):
            net = net_of_one(Row(row, manner))
            net.put_root("r", "a")
            self.assertEqual(reckoned(net, "r", 60), right)
        # In part below nought: the root of the rest of it is held.
        net = net_of_one(fed([0], "near"))
        net.put_root("r", "a")
        low, high = map(value, reckoned(net, "r", 1))
        self.assertTrue(low <= 0 and high ** 2 >= Fraction(1, 2))
        # Wholly below it, up to nought itself, which isn't in, but is counted in here.
        net = net_of_one(fed([-1]))
        net.put_root("r", "a")
        low, high = map(value, reckoned(net, "r", 1))
        self.assertTrue(low <= 0 <= high)
        net = net_of_one(fed([-2]))
        net.put_root("r", "a")
        net.put_one("d", "r", DOUBLE)
        self.assertIsNone(reckoned(net, "r", 1))
        self.assertIsNone(reckoned(net, "d", 1))

    def test_of_a_root_of_machines(self):
        net = Net()
        net.put("a", Row([2]))
        net.put("b", Row([8]))
        net.put_two("p", "a", "b", PRODUCT)
        net.put_root("r", "p")
        net.put_root("s", "a")
        net.put_two("t", "s", "r", SUM)
        self.assertEqual(reckoned(net, "r", 2), ((4, 1), (4, 1)))
        low, high = map(value, reckoned(net, "t", 2))
        root = Fraction(isqrt(2 * 10 ** 80), 10 ** 40)
        self.assertTrue(low <= root + 4 + Fraction(1, 10 ** 40) and root + 4 <= high and high - low <= FINE)


class Narrowing(Asking):
    def test_by_more_terms_none_is_wider_and_the_number_is_held(self):
        chance = random.Random(7)
        for _ in range(60):
            net, exact = Net(), {}
            for name in "ab":
                number = chance.choice(fractions_to(9, 3) + [(355, 113), (1393, 985)])
                manner = chance.choice(MANNERS)
                net.put(name, Row(row_by_rule(value(number), manner), manner))
                exact[name] = value(number)
            for name in "cdfg":
                one, other = chance.choices(list(exact), k=2)
                if max(net.stream(one).depth(), net.stream(other).depth()) > 3:
                    continue
                rows = chance.choice(FOUR)
                number = number_by_rule(rows, (told(exact[one]), told(exact[other])))
                net.put_two(name, one, other, rows)
                if number is not None:
                    exact[name] = number
            for name, number in exact.items():
                last = None
                for deep in range(1, 14):
                    found = reckoned(net, name, deep)
                    if found is None:
                        self.assertIsNone(last)
                        continue
                    low, high = map(value, found)
                    self.assertTrue(low <= number <= high)
                    self.assertTrue(last is None or last[0] <= low and high <= last[1])
                    last = low, high
            for name, number in exact.items():
                self.assertEqual(reckoned(net, name, 60), (told(number),) * 2)

    def test_of_roots_of_endless_streams(self):
        net = Net()
        net.put("e", endless())
        net.put("two", Ruled([1], [2]))
        net.put_two("p", "e", "two", PRODUCT)
        net.put_root("r", "p")
        net.put_root("q", "r")
        last = None
        for deep in range(1, 61):
            low, high = map(value, reckoned(net, "q", deep))
            self.assertTrue(last is None or last[0] <= low <= high <= last[1])
            last = low, high
        net.ask("q", 30)
        low, high = map(value, net.stream("q").bounds())
        self.assertTrue(low <= last[1] and last[0] <= high)


class Refused(Asking):
    def test_any_thing(self):
        net = net_of_one(endless())
        net.put_one("d", "a", DOUBLE)
        for thing in any_things():
            if thing != "a":
                self.assert_refused(NotInNet, thing, reckoned, net, thing, 5)
                self.assert_refused(NotInNet, thing, reckoned, net, thing, None)
            if not from_to(1, 60)(thing):
                self.assert_refused(NoNumber, thing, reckoned, net, "a", thing)
                self.assert_refused(NoNumber, thing, reckoned, net, "d", thing)
        for deep in (0, 61):
            self.assert_refused(NoNumber, deep, reckoned, net, "d", deep)
        self.assertEqual(net.counts(), {"a": 0, "d": 0})
        self.assertEqual(reckoned(net, "d", 60), tuple(told(2 * value(end)) for end in reckoned(net, "a", 60)))
