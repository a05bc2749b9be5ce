"""What the document promises over the whole program."""

import random
from fractions import Fraction
from itertools import permutations, product

from termstream.building import net_of
from termstream.comparing import compare
from termstream.desk import Desk
from termstream.digits import digits, number_of_digits
from termstream.nearest import neighbours
from termstream.nets import Net
from termstream.ones import One
from termstream.plans import plan_text, read_plan
from termstream.reckoner import reckoned
from termstream.rooted import Rooted, root_row
from termstream.running import Running
from termstream.settling import neighbours_of
from termstream.sources import Fed, Row, Ruled, Tail
from termstream.surds import Surd
from termstream.twos import Two
from tests.search import MANNERS, first_by_rule_and_rest, fractions_to, row_by_rule, told, value
from tests.test_building import PLAN
from tests.test_ones import PLAIN, asked_on
from tests.test_streams import endless, same
from tests.test_twos import DIFFERENCE, FOUR, PRODUCT, QUOTIENT, SUM
from tests.things import Asking

NUMBERS = [(22, 7), (-8, 13), (0, 1), (355, 113), (-5, 2)]


def row_stream(number, manner="floor"):
    return Row(row_by_rule(value(number), manner), manner)


def endless_streams():
    """Streams that don't end, new ones each time."""
    return [endless(), Ruled([1], [2]), Running(Surd(1, 5, 2)), Ruled([3], [4, -5, 3], None, "near"),
            Ruled([1], [3, 5], [1, 0], "ceil"), Rooted(Row([7])), Running(Surd(-3, 7, 5)), Tail(endless(), 3)]


class BackAgain(Asking):
    def test_through_machines_and_back_in_each_manner(self):
        there, back = ((3, -7), (-2, 5)), ((5, 7), (2, 3))
        for of, manner, last in product(MANNERS, MANNERS, MANNERS):
            for number in NUMBERS:
                for one, other in ((PLAIN, PLAIN), (there, back), (((0, 1), (1, 0)),) * 2):
                    if one[1][0] * value(number) + one[1][1] == 0:
                        continue
                    stream = One(other, One(one, row_stream(number, of), manner), last)
                    self.assertEqual(asked_on(stream, 1000), (row_by_rule(value(number), last), "end"))
        for at, stream in enumerate(endless_streams()):
            right = endless_streams()[at].terms(50)
            for manner in MANNERS:
                again = One(back, One(there, endless_streams()[at], manner), stream.manner(), 64)
                self.assertEqual(asked_on(again, 50), right)

    def test_from_one_manner_into_another_and_back(self):
        for at, stream in enumerate(endless_streams()):
            for manner in MANNERS:
                there = same(endless_streams()[at], manner)
                self.assertEqual(asked_on(same(there, stream.manner()), 60), stream.terms(60))

    def test_added_and_taken_off_again(self):
        for x, y, manner in product(NUMBERS, NUMBERS, MANNERS):
            one, other = row_stream(x, manner), row_stream(y, "near")
            again = Two(DIFFERENCE, Two(SUM, one, other, manner), other)
            self.assertEqual(asked_on(again, 1000), (row_by_rule(value(x), "floor"), "end"))
            if y != (0, 1):
                again = Two(PRODUCT, Two(QUOTIENT, one, other, manner), other, manner)
                self.assertEqual(asked_on(again, 1000), (row_by_rule(value(x), manner), "end"))


class OrderAndGrouping(Asking):
    def test_sums_and_products(self):
        for rows, manner in product((SUM, PRODUCT), ("floor", "near")):
            found = []
            for one, other, last in permutations(range(3)):
                streams = endless_streams()
                inner = Two(rows, streams[one], streams[other], manner)
                found.append(asked_on(Two(rows, inner, streams[last], manner), 25))
                streams = endless_streams()
                inner = Two(rows, streams[one], streams[other], "ceil")
                found.append(asked_on(Two(rows, streams[last], inner, manner), 25))
            self.assertEqual(found, [found[0]] * 12)
            self.assertEqual(found[0][1], "more")

    def test_of_fractions(self):
        for x, y, z in product(NUMBERS[:4], repeat=3):
            one, other, last = map(row_stream, (x, y, z))
            left = Two(PRODUCT, Two(SUM, one, other, "near"), last)
            right = Two(SUM, Two(PRODUCT, one, last), Two(PRODUCT, last, other, "ceil"))
            exact = (value(x) + value(y)) * value(z)
            self.assertEqual(asked_on(left, 1000), (row_by_rule(exact, "floor"), "end"))
            self.assertEqual(asked_on(right, 1000), (row_by_rule(exact, "floor"), "end"))

    def test_machines_one_behind_another_as_the_one_of_the_product(self):
        for at in range(8):
            inner = One(((1, 2), (-3, 5)), endless_streams()[at], "near")
            deep = Two(((0, 2, 1, 0), (0, 0, 0, 1)), inner, Ruled([1], [2]))
            # 2 (x + 2) / (5 - 3 x) + y, as one machine of x and y.
            flat = Two(((-3, 2, 5, 4), (0, -3, 0, 5)), endless_streams()[at], Ruled([1], [2]))
            self.assertEqual(asked_on(deep, 25), asked_on(flat, 25))


class Squared(Asking):
    def test_a_root_times_itself(self):
        for number in [part for part in fractions_to(9, 4) if part[0] >= 0]:
            root = Rooted(row_stream(number))
            square = Two(PRODUCT, root, root)
            row, word = root_row(number, 60)
            if word == "end":
                self.assertEqual(asked_on(square, 30), (row_by_rule(value(number), "floor"), "end"))
                continue
            # The terms never settle it, and its bounds hold the number.
            for _ in range(4):
                found = square.terms(30)
                self.assertEqual(found[1], "open")
            self.assertEqual(found[0], row_by_rule(value(number), "floor")[:len(found[0])])
            low, high = map(value, square.bounds())
            self.assertTrue(low < value(number) < high and high - low < Fraction(1, 10 ** 20))

    def test_the_root_of_a_square(self):
        # Of the roots of two and of seven the square is never settled.
        for at in (0, 2, 3, 4, 6, 7):
            streams = endless_streams()
            stream = same(streams[at])
            square = Two(PRODUCT, stream, stream, "near")
            right = stream.terms(25)
            if right[0][0] < 0:
                stream = same(endless_streams()[at])
                right = One(((-1, 0), (0, 1)), stream).terms(25)
            self.assertEqual(asked_on(Rooted(square), 25), right)

    def test_rows_that_come_round_as_streams(self):
        for d in (2, 3, 5, 7, 19, 61, 94):
            word, ahead, again = Surd(0, d).comes_round()
            self.assertEqual(word, "round")
            right = Ruled(ahead, again).terms(200)
            self.assertEqual(Running(Surd(0, d)).terms(200), right)
            self.assertEqual(Rooted(Row([d])).terms(200), right)


class SharedByManyNames(Asking):
    def test_no_order_of_asking_changes_a_term(self):
        plan = [row for row in PLAN if row[1] not in "fp"]
        right = net_of(plan)
        rows = {name: right.stream(name).terms(12) for name in right.names()}
        chance = random.Random(7)
        for _ in range(8):
            net = net_of(plan)
            places = [(name, place) for name in net.names() for place in range(12)]
            chance.shuffle(places)
            for name, place in places:
                terms, word = rows[name]
                found = net.ask(name, place)
                if place < len(terms):
                    self.assertEqual(found, ("term", terms[place]))
                elif word != "open":
                    self.assertEqual(found, (word,))
            for name, (terms, _) in rows.items():
                self.assertEqual(net.stream(name).made()[:len(terms)], terms)

    def test_each_term_is_made_once(self):
        stream = endless()
        net = Net()
        net.put("e", stream)
        for name in "abcd":
            net.put_one(name, "e", ((ord(name), 1), (0, 1)), "near")
        net.put_two("p", "a", "b", PRODUCT)
        net.put_two("s", "p", "e", SUM)
        for name in "scabpd":
            net.read(name, 20)
        self.assertEqual(stream.made(), endless().terms(stream.asked())[0])
        self.assertEqual(net.counts()["e"], stream.asked())

    def test_two_names_of_one_stream(self):
        net = Net()
        stream = Row([3, 7, 15])
        net.put("a", stream)
        net.put("b", stream)
        self.assertEqual((net.read("a", 2), net.read("b", 3)), (([3, 7], "more"), ([3, 7, 15], "more")))
        self.assertEqual(net.read("a", 5), ([15], "end"))


class OneNumber(Asking):
    def test_digits_neighbours_bounds_and_terms(self):
        for at in range(8):
            stream = endless_streams()[at]
            if stream.manner() != "floor":
                stream = same(stream)
            terms, _ = stream.terms(80)
            low, high = map(value, stream.bounds())
            _, found = digits(stream, 40)
            least = value(number_of_digits(found))
            self.assertTrue(least <= low and high < least + Fraction(1, 10 ** (len(found) - 1)))
            for bound in (1, 10, 1000, 10 ** 12):
                word, below, above = neighbours_of(stream, bound)
                self.assertEqual((word, (below, above)), ("told", neighbours(told((low + high) / 2), bound)))
                self.assertTrue(value(below) <= low < high <= value(above))
            self.assertEqual(first_by_rule_and_rest((low + high) / 2, 80, "floor")[0], terms)

    def test_bounds_that_are_reckoned_and_that_machines_tell(self):
        net = Net()
        net.put("e", endless())
        net.put_surd("g", Surd(1, 5, 2))
        for name, rows in zip("abcd", FOUR):
            net.put_two(name, "e", "g", rows)
        net.put_root("r", "a")
        for name in net.names():
            net.ask(name, 20)
            low, high = map(value, net.stream(name).bounds())
            for deep in (1, 5, 60):
                found = reckoned(net, name, deep)
                least, greatest = map(value, found)
                self.assertTrue(least <= high and low <= greatest)
            self.assertTrue(greatest - least < Fraction(1, 10 ** 20))

    def test_open_bounds_hold_the_number_and_only_narrow(self):
        chance = random.Random(7)
        for _ in range(60):
            x, y = chance.choices(fractions_to(8, 3), k=2)
            rows, manner = chance.choice(FOUR), chance.choice(MANNERS)
            feds = Fed(manner), Fed("near")
            machine = Two(rows, *feds, manner)
            root = Rooted(Two(PRODUCT, feds[1], feds[1]))
            exact = asked_on(Two(rows, row_stream(x, manner), row_stream(y, "near"), manner), 1000)
            last = [None, None]
            left = [row_by_rule(value(x), manner), row_by_rule(value(y), "near")]
            while left[0] or left[1]:
                at = chance.choice([part for part in (0, 1) if left[part]])
                feds[at].feed(left[at].pop(0))
                for stream_at, stream in enumerate((machine, root)):
                    found = stream.ask(stream.asked())
                    if found[0] != "open" or found[1] is None:
                        continue
                    low, high = map(value, found[1:])
                    before = last[stream_at]
                    self.assertTrue(before is None or before[0] <= low <= high <= before[1])
                    last[stream_at] = low, high
                    if stream_at == 1:
                        self.assertTrue(low <= abs(value(y)) <= high)
            for fed in feds:
                fed.finish()
            self.assertEqual(asked_on(machine, 1000), exact)
            self.assertEqual(asked_on(root, 1000), (row_by_rule(abs(value(y)), "floor"), "end"))

    def test_which_is_the_lesser_one(self):
        streams = [same(stream) for stream in endless_streams()]
        for one, other in product(range(8), repeat=2):
            found = compare(streams[one], streams[other], 100)
            for stream in (streams[one], streams[other]):
                stream.ask(120)
            low, high = map(value, streams[one].bounds())
            least, greatest = map(value, streams[other].bounds())
            if one == other:
                self.assertEqual(found, ("open", 100))
            else:
                self.assertEqual(found[0], "less" if high < least else "more")
                self.assertEqual(streams[one].made()[:found[1]], streams[other].made()[:found[1]])


class WholePlans(Asking):
    def test_a_desk_that_is_told_dozens_of_lines(self):
        desk = Desk()
        text = plan_text(PLAN)
        self.assertEqual(read_plan(text), PLAN)
        desk.say("load " + text.replace("\n", " / "))
        net = net_of(PLAN)
        for times in range(4):
            for name in net.names():
                terms, word = net.read(name, 5)
                self.assertEqual(desk.say(f"read {name} 5"), " ".join([*map(str, terms), word]))
        self.assertEqual(desk.say("counts"), " ".join(f"{name} {many}" for name, many in net.counts().items()))
        for times in range(48):
            self.assertEqual(desk.say("undo"), " ".join(net.undo()))
        self.assertEqual(desk.say("plan"), text.replace("\n", " / "))

    def test_large_plans(self):
        large = 10 ** 30 - 1
        plan = [("row", "a", "floor", (-large,) + (large,) * 99), ("row", "b", "ceil", (large,) * 100),
                ("ruled", "c", "near", (0,) + (-large,) * 9, (large, -large) * 10, (7, -7) * 10),
                ("surd", "s", large, large, -large)]
        plan += [("two", "d", "a", "b", "near", 64, ((0, 1, 1, 0), (0, 0, 0, 1))),
                 ("one", "e", "c", "floor", 64, ((large, 1), (3, -large))),
                 ("two", "f", "d", "e", "ceil", 64, ((1, 0, 0, 0), (0, 0, 0, 1))), ("root", "g", "s", 40),
                 ("two", "h", "f", "e", "floor", 9, ((1, 2, 3, 4), (-5, 6, -7, 8))), ("root", "i", "h", 64)]
        self.assertEqual(read_plan(plan_text(plan)), plan)
        net = net_of(plan)
        self.assertEqual(max(net.stream(name).depth() for name in net.names()), 4)
        for name in net.names():
            terms, word = net.read(name, 12)
            self.assertIn(word, ("more", "open", "nought"))
            self.assertEqual(net.stream(name).terms(len(terms))[0], terms)
            stream = net.stream(name)
            if terms and stream.bounds()[0] is not None:
                low, high = map(value, stream.bounds())
                self.assertLessEqual(low, high)
