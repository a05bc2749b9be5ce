from itertools import product

from termstream.comparing import compare
from termstream.errors import NoManner, NoNumber, NoStream
from termstream.ones import One
from termstream.rooted import Rooted
from termstream.running import Running
from termstream.sources import Fed, Row, Ruled, Tail
from termstream.surds import Surd
from termstream.twos import Two
from tests.search import fractions_to, row_by_rule, value
from tests.test_ones import PLAIN
from tests.test_streams import endless, fed, same, streams_of
from tests.test_twos import PRODUCT
from tests.things import Asking, any_things, from_to, is_stream


def order_by_products(one, other):
    """The word, by whole products."""
    left, right = one[0] * other[1], other[0] * one[1]
    return "same" if left == right else "less" if left < right else "more"


class Compared(Asking):
    def test_small_fractions_against_whole_products(self):
        numbers = fractions_to(7, 2)
        rows = {number: row_by_rule(value(number), "floor") for number in numbers}
        for one, other in product(numbers, numbers):
            word = order_by_products(one, other)
            row, other_row = rows[one], rows[other]
            found = compare(Row(row), Row(other_row))
            if word == "same":
                self.assertEqual(found, ("same",))
                continue
            place = [at for at in range(9) if row[at:at + 1] != other_row[at:at + 1]][0]
            self.assertEqual(found, (word, place))

    def test_at_each_kind_of_place(self):
        self.assertEqual(compare(Row([3]), Row([4])), ("less", 0))
        self.assertEqual(compare(Row([4]), Row([3, 7])), ("more", 0))
        self.assertEqual(compare(Row([3, 7]), Row([3, 8])), ("more", 1))
        self.assertEqual(compare(Row([3, 8]), Row([3, 7, 15])), ("less", 1))
        self.assertEqual(compare(Row([3, 7, 15]), Row([3, 7, 16])), ("less", 2))
        # An end, at an odd place and at an even one, on either side.
        self.assertEqual(compare(Row([3]), Row([3, 7])), ("less", 1))
        self.assertEqual(compare(Row([3, 7]), Row([3])), ("more", 1))
        self.assertEqual(compare(Row([3, 7]), Row([3, 7, 15])), ("more", 2))
        self.assertEqual(compare(Row([3, 7, 15]), Row([3, 7])), ("less", 2))
        self.assertEqual(compare(Row([-3]), Row([-3, 7])), ("less", 1))

    def test_the_same_row(self):
        for one, other in product(streams_of([3, 7, 15]), streams_of([3, 7, 15])):
            self.assertEqual(compare(one, other), ("same",))
            self.assertEqual(compare(one, other, 4), ("same",))
            self.assertEqual(compare(one, other, 3), ("open", 3))
        stream = Row([3, 7])
        self.assertEqual(compare(stream, stream), ("same",))
        stream = endless()
        self.assertEqual(compare(stream, stream), ("open", 40))
        self.assertEqual(stream.asked(), 40)
        self.assertEqual(compare(stream, endless(), 100), ("open", 100))
        self.assertEqual(stream.asked(), 100)

    def test_the_last_place_of_most_and_behind_it(self):
        row, other = [1] * 20 + [2], [1] * 20 + [3]
        self.assertEqual(compare(Row(row), Row(other), 21), ("less", 20))
        self.assertEqual(compare(Row(row), Row(other), most=20), ("open", 20))
        self.assertEqual(compare(Row(row), Row(other)), ("less", 20))
        self.assertEqual(compare(Row([3]), Row([4]), 1), ("less", 0))
        self.assertEqual(compare(Row([3, 5]), Row([3, 4]), 1), ("open", 1))
        row, other = [1] * 99 + [2], [1] * 99 + [3]
        self.assertEqual(compare(Row(row), Row(other), 100), ("more", 99))
        self.assertEqual(compare(Row(row), Row(other)), ("open", 40))

    def test_what_is_asked(self):
        one, other = Row([3, 7, 15, 2]), endless()
        self.assertEqual(compare(one, other), ("more", 0))
        self.assertEqual((one.asked(), other.asked()), (1, 1))
        one, other = Ruled([2, 1], [2]), endless()
        self.assertEqual(compare(one, other), ("less", 3))
        self.assertEqual((one.asked(), other.asked()), (4, 4))
        # What is open, or nought, is asked all the same of both, the first one ahead.
        one, other = fed([2, 1]), endless()
        self.assertEqual(compare(one, other), ("open", 2))
        self.assertEqual((one.asked(), other.asked()), (2, 3))
        one, other = Tail(Row([3]), 1), endless()
        self.assertEqual(compare(one, other), ("nought",))
        self.assertEqual(other.asked(), 1)
        one, other = endless(), fed([2, 1])
        self.assertEqual(compare(one, other), ("open", 2))
        self.assertEqual((one.asked(), other.asked()), (3, 2))
        # What was made ahead changes nothing.
        one, other = endless(), Ruled([2, 1], [2])
        one.ask(50)
        self.assertEqual(compare(one, other), ("more", 3))
        self.assertEqual((one.asked(), other.asked()), (51, 4))

    def test_which_of_two_is_asked_first(self):
        # The machine asks the very stream that it is compared to.
        stream = endless()
        machine = One(((2, 0), (0, 1)), stream)
        self.assertEqual(compare(machine, stream), ("more", 0))
        self.assertEqual((machine.asked(), stream.asked()), (1, 2))
        self.assertEqual(compare(same(stream), stream), ("open", 40))

    def test_open_and_nought(self):
        nought = Tail(Row([3]), 1)
        for one, other in ((nought, endless()), (endless(), nought), (nought, nought), (nought, Fed()), (Fed(), nought)):
            self.assertEqual(compare(one, other), ("nought",))
        for one, other in ((Fed(), endless()), (endless(), Fed()), (Fed(), Fed()), (Fed(), Row([3]))):
            self.assertEqual(compare(one, other), ("open", 0))
        # Ahead of what is open they part.
        self.assertEqual(compare(fed([3, 7]), fed([3, 8])), ("more", 1))
        self.assertEqual(compare(fed([3, 7]), fed([3, 7, 5])), ("open", 2))
        self.assertEqual(compare(fed([3, 7]), fed([3, 7], finished=True)), ("open", 2))
        self.assertEqual(compare(fed([3, 7], finished=True), fed([3, 7, 5])), ("more", 2))
        # A square of a root and its number never part.
        root = Running(Surd(0, 2))
        self.assertEqual(compare(Two(PRODUCT, root, root), Row([2])), ("open", 0))

    def test_of_machines(self):
        golden = Running(Surd(1, 5, 2))
        self.assertEqual(compare(Rooted(One(((1, 1), (0, 1)), golden)), golden), ("open", 40))
        self.assertEqual(compare(Rooted(Row([2])), Running(Surd(0, 2))), ("open", 40))
        self.assertEqual(compare(One(PLAIN, Row([3, 7], "near")), Row([3, 7])), ("same",))
        self.assertEqual(compare(Rooted(Row([10])), Row([3, 6])), ("less", 2))

    def test_refused(self):
        one, other = endless(), endless()
        for thing in any_things():
            if not is_stream(thing):
                self.assert_refused(NoStream, thing, compare, thing, other)
                self.assert_refused(NoStream, thing, compare, thing, None, 0)
                self.assert_refused(NoStream, thing, compare, one, thing)
                self.assert_refused(NoStream, thing, compare, one, thing, 0)
            if not from_to(1, 100)(thing):
                self.assert_refused(NoNumber, thing, compare, one, other, thing)
                self.assert_refused(NoNumber, thing, compare, one, other, most=thing)
        for manner in ("ceil", "near"):
            stream = Row([3, 7], manner)
            self.assert_refused(NoManner, manner, compare, stream, None, 0)
            self.assert_refused(NoManner, manner, compare, one, stream, 0)
            self.assert_refused(NoManner, manner, compare, stream, stream)
        for most in (0, 101):
            self.assert_refused(NoNumber, most, compare, one, other, most)
        self.assert_refused(NoStream, None, compare, one, None)
        self.assertEqual((one.asked(), other.asked()), (0, 0))
