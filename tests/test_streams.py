from fractions import Fraction

from termstream.errors import NoManner, NoNumber, NoPlace
from termstream.manners import number_of
from termstream.ones import One
from termstream.sources import Fed, Row, Ruled, Tail
from termstream.streams import Stream
from tests.search import (
    MANNERS, is_beginning_by_rule, is_rest, lists_of, row_by_rule, value, with_rest,
)
from tests.things import Asking, all_but, any_things, from_to, is_manner_word

NEXT = Fraction(1, 10 ** 9)
RESTS = [Fraction(top, bottom) for bottom in (1, 2, 3) for top in range(-9, 10)]
RESTS += [sign * (Fraction(whole) + near) for sign in (1, -1) for whole in (1, 2) for near in (NEXT, 0, 1 - NEXT)]
RESTS += [Fraction(10 ** 9), Fraction(-10 ** 9)]


def fed(terms, manner="floor", finished=False):
    found = Fed(manner)
    for term in terms:
        found.feed(term)
    if finished:
        found.finish()
    return found


def endless():
    return Ruled([2], [1, 2, 1], [0, 2, 0])


def same(stream, manner="floor"):
    """The machine that tells the same number in a manner."""
    return One(((1, 0), (0, 1)), stream, manner)


def streams_of(row):
    """The streams of each kind that tell the row of `floor`, new ones."""
    return [
        Row(row), fed(row, finished=True), Tail(Row([5, *row]), 1), Tail(fed([5, 1, *row], finished=True), 2),
        Tail(Tail(Row([5, 6, *row]), 1), 1), same(Row(row)), same(same(Row(row))), Tail(same(Row([5, *row])), 1),
    ]


class Places(Asking):
    def test_terms_and_the_end(self):
        for row in ([3], [3, 7], [3, 7, 15], [2, 1, 1, 2]):
            for stream in streams_of(row):
                for place, term in enumerate(row):
                    self.assertEqual(stream.ask(place), ("term", term))
                for place in (len(row), len(row) + 1, 500, 998, 999):
                    self.assertEqual(stream.ask(place), ("end",))
                self.assertEqual(stream.ask(0), ("term", row[0]))
                self.assertEqual(stream.asked(), len(row))

    def test_any_order_of_asking(self):
        row = [3, 7, 15, 1, 292]
        for order in ((4, 0, 2), (999, 3), (0, 1, 2, 3, 4, 5), (2, 1, 0, 7), (5, 4, 3, 2, 1, 0)):
            for stream in streams_of(row):
                for place in order:
                    right = ("term", row[place]) if place < len(row) else ("end",)
                    self.assertEqual(stream.ask(place), right)

    def test_made_as_far_as_is_asked_and_no_further(self):
        for make in (endless, lambda: Tail(endless(), 3), lambda: Ruled([4], [2, 3], manner="ceil")):
            stream = make()
            self.assertEqual(stream.asked(), 0)
            for place, made in ((0, 1), (5, 6), (2, 6), (6, 7), (99, 100), (0, 100), (999, 1000)):
                stream.ask(place)
                self.assertEqual(stream.asked(), made)
                self.assertEqual(stream.made(), make().terms(made)[0])

    def test_the_thousandth_place(self):
        stream = endless()
        self.assertEqual(stream.ask(999), ("term", 1))
        self.assertEqual(stream.ask(998), ("term", 666))
        for place in (1000, 1001, -1, 10 ** 12):
            self.assert_refused(NoPlace, place, stream.ask, place)

    def test_machines_take_places_beyond(self):
        # Of terms 1 above and below by turns the machine needs ever more of them.
        stream = Ruled([1], [1])
        machine = One(((10 ** 11, 3), (7, 1)), One(((10 ** 11, 1), (3, 1)), stream, most=64), most=64)
        self.assertEqual(machine.terms(1000)[1], "more")
        self.assertGreater(stream.asked(), 1000)
        self.assertEqual(stream.terms(1000), ([1] * 1000, "more"))

    def test_open_and_looked_at_anew(self):
        for stream, make in self.open_streams():
            self.assertEqual(make.ask(0), ("open", None, None))
            self.assertEqual(make.ask(5), ("open", None, None))
            for term, told in ((3, ("term", 3)), (7, ("term", 7))):
                stream.feed(term)
                self.assertEqual(make.ask(make.asked()), told)
            self.assertEqual(make.ask(2), ("open", *make.bounds()))
            self.assertEqual(make.ask(999), ("open", (25, 8), (22, 7)))
            self.assertEqual(make.ask(0), ("term", 3))
            stream.feed(2)
            stream.finish()
            self.assertEqual(make.ask(2), ("term", 2))
            self.assertEqual(make.ask(3), ("end",))

    def open_streams(self):
        one = Fed()
        yield one, one
        other = fed([9])
        yield other, Tail(other, 1)
        last = fed([9, 8])
        yield last, Tail(Tail(last, 1), 1)

    def test_nought(self):
        for stream in (Tail(Row([3]), 1), Tail(Row([3]), 2), Tail(Tail(Row([3, 7]), 1), 1),
                       One(((1, 0), (1, -3)), Row([3])), Tail(One(((1, 0), (1, -3)), Row([3])), 0)):
            for place in (0, 1, 999):
                self.assertEqual(stream.ask(place), ("nought",))
            self.assertEqual(stream.asked(), 0)
            self.assertEqual(stream.made(), [])
            self.assertEqual(stream.bounds(), (None, None))

    def test_refused(self):
        for make in (endless, Fed, lambda: Row([3, 7]), lambda: Tail(endless(), 1), lambda: same(endless())):
            stream = make()
            for thing in all_but(from_to(0, 999)):
                self.assert_refused(NoPlace, thing, stream.ask, thing)
            self.assertEqual(stream.asked(), 0)
        for thing in all_but(is_manner_word):
            self.assert_refused(NoManner, thing, Stream, thing)


class Terms(Asking):
    def test_of_a_row_that_ends(self):
        row = [3, 7, 15]
        for stream in streams_of(row):
            self.assertEqual(stream.terms(0), ([], "more"))
            self.assertEqual(stream.asked(), 0)
            for many in (1, 2, 3):
                self.assertEqual(stream.terms(many), (row[:many], "more"))
                self.assertEqual(stream.asked(), many)
            for many in (4, 5, 999, 1000):
                self.assertEqual(stream.terms(many), (row, "end"))
            for many in (3, 1, 0):
                self.assertEqual(stream.terms(many), (row[:many], "more"))

    def test_of_an_endless_one(self):
        stream = endless()
        self.assertEqual(stream.terms(9), ([2, 1, 2, 1, 1, 4, 1, 1, 6], "more"))
        terms, word = stream.terms(1000)
        self.assertEqual((len(terms), word, stream.asked()), (1000, "more", 1000))
        self.assertEqual(terms, [2] + [term for k in range(1, 334) for term in (1, 2 * k, 1)])

    def test_of_an_open_one_and_of_nought(self):
        stream = fed([3, 7])
        self.assertEqual(stream.terms(2), ([3, 7], "more"))
        self.assertEqual(stream.terms(3), ([3, 7], "open"))
        self.assertEqual(stream.terms(1000), ([3, 7], "open"))
        self.assertEqual(Fed().terms(0), ([], "more"))
        self.assertEqual(Fed().terms(1), ([], "open"))
        self.assertEqual(Tail(Row([3]), 1).terms(0), ([], "more"))
        self.assertEqual(Tail(Row([3]), 1).terms(1), ([], "nought"))
        self.assertEqual(Tail(Row([3]), 1).terms(1000), ([], "nought"))

    def test_told_anew(self):
        for make in (endless, lambda: Row([3, 7, 15, 1, 292]), lambda: Tail(endless(), 1), lambda: same(endless())):
            stream = make()
            self.assert_new_each_time(lambda many: stream.terms(many)[0], 4)
            self.assert_new_each_time(stream.made)
            self.assertIs(type(stream.terms(3)), tuple)

    def test_refused(self):
        for make in (endless, Fed, lambda: Row([3, 7]), lambda: Tail(endless(), 1), lambda: same(endless())):
            stream = make()
            for thing in all_but(from_to(0, 1000)):
                self.assert_refused(NoNumber, thing, stream.terms, thing)
            self.assertEqual(stream.asked(), 0)

    def test_manner_and_depth(self):
        for manner in MANNERS:
            for stream in (Row([3], manner), Ruled([3], [3], None, manner), Fed(manner)):
                self.assertEqual((stream.manner(), stream.depth(), stream.asked()), (manner, 0, 0))
                self.assertEqual((Tail(stream, 7).manner(), Tail(stream, 7).depth()), (manner, 0))
                machine = same(stream, "ceil")
                self.assertEqual((machine.manner(), machine.depth()), ("ceil", 1))
                self.assertEqual((Tail(machine, 7).manner(), Tail(machine, 7).depth()), ("ceil", 1))


class Bounds(Asking):
    def test_against_many_rows(self):
        for manner in MANNERS:
            for terms in lists_of((-3, -2, 1, 2, 3), 3):
                if not terms or not is_beginning_by_rule(terms, manner):
                    continue
                stream = fed(terms, manner)
                stream.ask(len(terms))
                low, high = stream.bounds()
                numbers = [with_rest(terms, rest, manner) for rest in RESTS if is_rest(terms, rest, manner)]
                self.assertTrue(value(low) <= min(numbers) < value(low) + 8 * NEXT, (terms, manner, low))
                self.assertTrue(value(high) - 8 * NEXT < max(numbers) <= value(high), (terms, manner, high))

    def test_known(self):
        stream = fed([3, 7])
        self.assertEqual(stream.bounds(), (None, None))
        stream.ask(0)
        self.assertEqual(stream.bounds(), ((3, 1), (4, 1)))
        stream.ask(1)
        self.assertEqual(stream.bounds(), ((25, 8), (22, 7)))
        near = fed([3, 2], "near")
        near.ask(0)
        self.assertEqual(near.bounds(), ((5, 2), (7, 2)))
        near.ask(1)
        self.assertEqual(near.bounds(), ((17, 5), (7, 2)))
        ceil = fed([4, 2], "ceil")
        ceil.ask(0)
        self.assertEqual(ceil.bounds(), ((3, 1), (4, 1)))
        ceil.ask(1)
        self.assertEqual(ceil.bounds(), ((3, 1), (7, 2)))

    def test_behind_the_end(self):
        for manner in MANNERS:
            for row in ([3], [-3, 3], [3, 3, 3, 4]):
                stream = Row(row, manner)
                stream.ask(len(row) - 1)
                self.assertNotEqual(stream.bounds()[0], stream.bounds()[1])
                stream.ask(len(row))
                self.assertEqual(stream.bounds(), (number_of(row, manner),) * 2)

    def test_asking_bounds_makes_nothing(self):
        for stream in streams_of([3, 7]):
            self.assertEqual(stream.bounds(), (None, None))
            self.assertEqual(stream.asked(), 0)
            stream.ask(0)
            stream.bounds()
            self.assertEqual(stream.asked(), 1)

    def test_they_only_narrow(self):
        many = 123456789012
        for stream in (endless(), Ruled([-5], [2, 3, 7], None, "ceil"), Ruled([7], [2, 3, -4], [0, 1, -1], "near"),
                       Tail(endless(), 4), Row([many + 7 * k for k in range(100)]), same(endless(), "near"),
                       Row([-many - 7 * k for k in range(100)], "near"), Row([many] * 100, "ceil")):
            last = None
            for place in range(100):
                stream.ask(place)
                low, high = map(value, stream.bounds())
                self.assertLess(low, high)
                if last:
                    self.assertTrue(last[0] <= low and high <= last[1])
                last = (low, high)

    def test_of_a_tail_they_are_of_its_own_terms(self):
        tail = Tail(fed([0, 2, 5], "near"), 1)
        tail.ask(0)
        self.assertEqual(tail.bounds(), ((3, 2), (5, 2)))

    def test_of_rows_of_a_hundred_terms(self):
        row = [123456789012 + 7919 * k for k in range(100)]
        stream = Row(row)
        self.assertEqual(stream.terms(1000), (row, "end"))
        number = stream.bounds()[0]
        self.assertEqual(row_by_rule(value(number), "floor"), row)


class Orders(Asking):
    def test_no_order_changes_a_term(self):
        right = endless().terms(50)[0]
        stream = endless()
        one, other, machine = Tail(stream, 3), Tail(stream, 10), same(stream)
        for place in (7, 0, 12, 3, 30):
            self.assertEqual(other.ask(place), ("term", right[10 + place]))
            self.assertEqual(one.ask(place), ("term", right[3 + place]))
            self.assertEqual(machine.ask(place), ("term", right[place]))
        self.assertEqual(stream.asked(), 41)

    def test_the_same_question_has_an_equal_answer(self):
        for stream in streams_of([3, 7, 15]):
            for question in (lambda: stream.ask(1), lambda: stream.terms(9), stream.bounds, stream.made):
                self.assertEqual(question(), question())
        for thing in any_things():
            if isinstance(thing, Stream):
                self.assertEqual(thing.terms(1), thing.terms(1))
