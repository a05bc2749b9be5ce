import random
from fractions import Fraction
from math import floor

from termstream.digits import digits, digits_text, number_of_digits
from termstream.errors import NoBase, NoNumber, NoRow, NoStream
from termstream.rooted import Rooted
from termstream.running import Running
from termstream.sources import Fed, Row, Ruled, Tail
from termstream.surds import Surd
from termstream.twos import Two
from tests.search import MANNERS, begin_with, fractions_to, row_by_rule, told, value
from tests.test_streams import endless, fed, same, streams_of
from tests.things import Asking, all_but, any_things, from_to, is_numbers, is_stream

SIGNS = "0123456789abcdefghijklmnopqrstuvwxyz"
POOL = fractions_to(12, 4)
FIRST_OF_E = [2] + [int(sign) for sign in "7182818284590452353602874713526624977572"]


def by_division(number, many, base):
    """The floor and the first digits, by long division."""
    found = [floor(number)]
    left = number - found[0]
    for _ in range(many):
        found.append(floor(left * base))
        left = left * base - found[-1]
    return found


def is_base(thing):
    return from_to(2, 36)(thing)


class Digits(Asking):
    def test_against_division(self):
        chance = random.Random(96)
        numbers = fractions_to(9, 3) + [told(Fraction(chance.randint(-10 ** 30, 10 ** 30), 10 ** 29 + 7)) for _ in range(9)]
        for at, number in enumerate(numbers):
            for manner in MANNERS:
                if number[1] > 10 ** 9 and manner == "ceil":
                    continue
                base, many = (2, 10, 36, 7)[at % 4], (40, 0, 7)[at % 3]
                stream = Row(row_by_rule(value(number), manner), manner)
                self.assertEqual(digits(stream, many, base), ("all", by_division(value(number), many, base)))

    def test_known(self):
        self.assertEqual(digits(endless(), 40), ("all", FIRST_OF_E))
        self.assertEqual(digits(Running(Surd(1, 5, 2)), 20), ("all", [1] + [int(sign) for sign in "61803398874989484820"]))
        self.assertEqual(digits(Running(Surd(0, 2)), 9, 2), ("all", [1, 0, 1, 1, 0, 1, 0, 1, 0, 0]))
        self.assertEqual(digits(Rooted(Row([2])), 5), ("all", [1, 4, 1, 4, 2, 1]))
        self.assertEqual(digits(Row([-4, 7]), 4, base=16), ("all", [-4, 2, 4, 9, 2]))
        self.assertEqual(digits(Row([-1, 1, 2]), 3), ("all", [-1, 6, 6, 6]))
        self.assertEqual(digits(Row([0]), 3), ("all", [0, 0, 0, 0]))
        self.assertEqual(digits(Row([123456789012345678901234567890]), 1), ("all", [123456789012345678901234567890, 0]))
        for stream in streams_of([3, 7]):
            self.assertEqual(digits(stream, 8), ("all", [3, 1, 4, 2, 8, 5, 7, 1, 4]))

    def test_bases_of_2_10_and_36(self):
        number = Fraction(355, 113)
        for base in (2, 10, 35, 36):
            stream = Row(row_by_rule(number, "near"), "near")
            self.assertEqual(digits(stream, 40, base), ("all", by_division(number, 40, base)))
            self.assertEqual(digits(stream, 40, base=base, most=64), ("all", by_division(number, 40, base)))
        self.assertEqual(digits(Row([2, 2]), 3), digits(Row([2, 2]), 3, 10, 64))

    def test_each_as_soon_as_it_is_settled_and_never_earlier(self):
        chance = random.Random(96)
        for _ in range(250):
            manner, number = chance.choice(MANNERS), chance.choice(POOL)
            base, many = chance.choice((2, 3, 10)), chance.choice((0, 1, 4))
            stream, row = Fed(manner), row_by_rule(value(number), manner)
            self.assertEqual(digits(stream, many, base), ("open", []))
            for at, term in enumerate(row):
                stream.feed(term)
                word, found = digits(stream, many, base)
                terms = stream.made()
                self.assertEqual(found, by_division(value(number), many, base)[:len(found)])
                for other in begin_with(terms, POOL, manner):
                    self.assertEqual(by_division(value(other), many, base)[:len(found)], found)
                if word == "all":
                    self.assertEqual(len(found), many + 1)
                    continue
                self.assertEqual((word, terms), ("open", row[:at + 1]))
                self.assert_apart(stream, len(found), base)
            stream.finish()
            self.assertEqual(digits(stream, many, base), ("all", by_division(value(number), many, base)))

    def assert_apart(self, stream, place, base):
        """Of the numbers at the two ends of all that begin so, and next to them, two have unlike digits there."""
        low, high = map(value, stream.bounds())
        near = (high - low) / 10 ** 30
        ends = [told(end) for end in (low, low + near, high - near, high)]
        ends = begin_with(stream.made(), ends, stream.manner())
        self.assertGreater(len({tuple(by_division(value(end), place, base)) for end in ends}), 1)

    def test_no_more_is_taken_than_is_needed(self):
        for many in range(12):
            stream = endless()
            self.assertEqual(digits(stream, many), ("all", FIRST_OF_E[:many + 1]))
            made = stream.made()
            fewer = fed(made[:-1])
            word, found = digits(fewer, many)
            self.assertEqual((word, len(found) <= many), ("open", True) if len(made) > 1 else (word, True))

    def test_at_a_whole_number_from_either_side(self):
        # Of 3 itself, in each manner, of what is next below it, and of what is next above it.
        for manner in MANNERS:
            self.assertEqual(digits(Row([3], manner), 3), ("all", [3, 0, 0, 0]))
        self.assertEqual(digits(Row([2, 1, 10 ** 11]), 5), ("all", [2, 9, 9, 9, 9, 9]))
        self.assertEqual(digits(Row([3, 10 ** 11]), 5), ("all", [3, 0, 0, 0, 0, 0]))
        self.assertEqual(digits(Row([3, -10 ** 11], "near"), 5), ("all", [2, 9, 9, 9, 9, 9]))
        self.assertEqual(digits(Row([3, 10 ** 11], "ceil"), 5), ("all", [2, 9, 9, 9, 9, 9]))
        # 3 and above it is settled in `floor`; `ceil` tells 3 and below it.
        self.assertEqual(digits(fed([3]), 0), ("all", [3]))
        self.assertEqual(digits(fed([3], "ceil"), 0), ("open", []))
        self.assertEqual(digits(fed([3], "near"), 0), ("open", []))
        self.assertEqual(digits(fed([3, 5], "near"), 0), ("all", [3]))
        self.assertEqual(digits(fed([3, 5], "near"), 1), ("open", [3]))
        self.assertEqual(digits(fed([3, 5], "near", finished=True), 1), ("all", [3, 2]))
        # The sum of two numbers that are three together never parts from it.
        machine = Two(((0, 1, -1, 0), (0, 0, 0, 1)), endless(), endless())
        self.assertEqual(digits(machine, 3), ("open", []))

    def test_most(self):
        for most in (1, 2, 5, 64):
            stream = Row([3] + [2] * 98 + [3], "ceil")
            self.assertEqual(digits(stream, 40, 10, most), digits(fed(([3] + [2] * 98)[:1 + most], "ceil"), 40))
            self.assertEqual(stream.asked(), 1 + most)
        stream = Row([3] + [2] * 98 + [3], "ceil")
        found = digits(stream, 40)
        self.assertEqual((found[0], stream.asked()), ("open", 65))
        # What was made by then counts as well, and the call begins at the first term.
        stream.ask(99)
        self.assertEqual(digits(stream, 40), found)
        self.assertEqual(stream.asked(), 100)
        self.assertEqual(digits(stream, 40, most=1), ("open", [2]))
        # An end counts, and the first place doesn't.
        self.assertEqual(digits(Row([3, 7]), 3, most=1), ("open", [3, 1]))
        self.assertEqual(digits(Row([3, 7]), 3, most=2), ("all", [3, 1, 4, 2]))
        self.assertEqual(digits(Row([3]), 3, most=1), ("all", [3, 0, 0, 0]))
        self.assertEqual(digits(Row([3]), 0, most=1), ("all", [3]))

    def test_open_and_nought(self):
        stream = Fed()
        self.assertEqual(digits(stream, 3), ("open", []))
        stream.feed(3)
        self.assertEqual(digits(stream, 3), ("open", [3]))
        stream.feed(7)
        self.assertEqual(digits(stream, 3), ("open", [3, 1]))
        stream.feed(15)
        self.assertEqual(digits(stream, 3), ("all", [3, 1, 4, 1]))
        self.assertEqual(digits(stream, 9)[0], "open")
        for nought in (Tail(Row([3]), 1), Rooted(Row([-3])), same(Tail(Row([3]), 1))):
            for many in (0, 40):
                self.assertEqual(digits(nought, many), ("nought", []))

    def test_refused(self):
        stream = endless()
        for thing in any_things():
            if not is_stream(thing):
                self.assert_refused(NoStream, thing, digits, thing, 3)
                self.assert_refused(NoStream, thing, digits, thing, 41, 37, 65)
            if not from_to(0, 40)(thing):
                self.assert_refused(NoNumber, thing, digits, stream, thing)
                self.assert_refused(NoNumber, thing, digits, stream, thing, 37, 65)
            if not is_base(thing):
                self.assert_refused(NoBase, thing, digits, stream, 3, thing)
                self.assert_refused(NoBase, thing, digits, stream, 3, thing, 65)
            if not from_to(1, 64)(thing):
                self.assert_refused(NoNumber, thing, digits, stream, 3, 10, thing)
                self.assert_refused(NoNumber, thing, digits, stream, 3, most=thing)
        for many in (-1, 41):
            self.assert_refused(NoNumber, many, digits, stream, many)
        for base in (1, 37, 0, -10):
            self.assert_refused(NoBase, base, digits, stream, 3, base=base)
        self.assertEqual(stream.asked(), 0)
        self.assert_new_each_time(lambda many: digits(endless(), many)[1], 3)


def is_digits(thing, base):
    return is_numbers(thing) and len(thing) > 0 and all(0 <= digit < base for digit in thing[1:])


class OfDigits(Asking):
    def test_numbers(self):
        for base in (2, 10, 36):
            for number in fractions_to(9, 3):
                found = by_division(value(number), 12, base)
                right = sum((Fraction(digit, base ** at) for at, digit in enumerate(found)), Fraction(0))
                self.assertEqual(number_of_digits(found, base), told(right))
                self.assertEqual(number_of_digits(tuple(found), base=base), told(right))
                self.assertEqual(number_of_digits(found[:1], base), (found[0], 1))
        self.assertEqual(number_of_digits([3, 1, 4]), (157, 50))
        self.assertEqual(number_of_digits([-4, 8, 6]), (-157, 50))
        self.assertEqual(number_of_digits([-4]), (-4, 1))
        self.assertEqual(number_of_digits([0, 0, 0]), (0, 1))
        self.assertEqual(number_of_digits([0] + [0] * 98 + [1]), (1, 10 ** 99))

    def test_texts(self):
        self.assertEqual(digits_text([3, 1, 4]), "3.14")
        self.assertEqual(digits_text([-4, 8, 6]), "-4+.86")
        self.assertEqual(digits_text([7]), "7")
        self.assertEqual(digits_text([-4]), "-4")
        self.assertEqual(digits_text([0, 0]), "0.0")
        self.assertEqual(digits_text([-1, 9]), "-1+.9")
        self.assertEqual(digits_text([40, 10, 35, 9], 36), "40.az9")
        self.assertEqual(digits_text(list(range(36)), base=36), "0." + SIGNS[1:])
        self.assertEqual(digits_text((-10 ** 29, 1, 0), 2), f"-1{29 * '0'}+.10")

    def test_refused(self):
        for call in (number_of_digits, digits_text):
            for thing in any_things():
                if not is_base(thing):
                    self.assert_refused(NoBase, thing, call, [3], thing)
                    self.assert_refused(NoBase, thing, call, None, thing)
                for base in (2, 10, 36):
                    if is_digits(thing, base):
                        call(thing, base)
                    else:
                        self.assert_refused(NoRow, thing, call, thing, base)
            for wrong in ([], (), [3, 10], [3, -1], [3, 1, 10], [3, True]):
                self.assert_refused(NoRow, wrong, call, wrong)
                self.assert_refused(NoRow, wrong, call, wrong, base=10)
            call([3, 9], 10)
            call([3, 35], 36)
