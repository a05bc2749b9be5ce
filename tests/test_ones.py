import random
from fractions import Fraction
from itertools import product

from termstream.errors import Flat, NoFraction, NoManner, NoNumber, NoRows, NoStream, TooMany
from termstream.machines import Machine
from termstream.ones import One, plain_one, shows_apart
from termstream.sources import Fed, Row, Ruled, Tail
from termstream.streams import Stream
from tests.search import MANNERS, first_by_rule_and_rest, fractions_to, row_by_rule, value
from tests.test_streams import endless, same
from tests.things import (
    Asking, all_but, any_things, from_to, is_lowest, is_manner_word, is_numbers, is_steep, is_stream, is_two_rows,
)

PLAIN = ((1, 0), (0, 1))
TURNED = ((0, 1), (1, 0))
ROWS = (PLAIN, TURNED, ((2, 0), (0, 1)), ((1, 0), (0, 2)), ((-1, 0), (0, 1)), ((1, 1), (1, -3)), ((3, -7), (-2, 5)),
        ((1, 2), (-3, 4)), ((1, -3), (2, -7)))
TWELVE = ((123456789012, -987654321098), (345678901234, 456789012345))


def number_by_rule(rows, fraction):
    """What the rows make of the fraction, or None."""
    (a, b), (c, d) = rows
    top, bottom = fraction
    below = c * top + d * bottom
    return Fraction(a * top + b * bottom, below) if below else None


def reckoned(rows, fraction, manner):
    """The row of what the rows make of the fraction, or None."""
    number = number_by_rule(rows, fraction)
    return None if number is None else row_by_rule(number, manner)


def are_apart(rows, terms, one, other, place, manner, of):
    """Whether the two numbers show that the place isn't settled, by the words of the document."""
    for number in (one, other):
        if first_by_rule_and_rest(value(number), len(terms), of)[0] != list(terms):
            return False
    numbers = [number_by_rule(rows, number) for number in (one, other)]
    if None in numbers:
        return place == 0 and numbers[0] != numbers[1]
    row, other_row = [first_by_rule_and_rest(number, place + 1, manner)[0] for number in numbers]
    if min(len(row), len(other_row)) < place or row[:place] != other_row[:place]:
        return False
    return row != other_row


def asked_on(machine, many):
    """What it tells of the first many terms, asked as often as it is open, up to a hundred times."""
    for _ in range(100):
        found = machine.terms(many)
        if found[1] != "open":
            return found
    return found


class Made(Asking):
    def test_against_the_rule(self):
        numbers = [(7, 2), (-7, 3), (3, 1), (13, 30), (-1, 2), (0, 1), (5, 8)]
        for rows, number, of, manner in product(ROWS, numbers, MANNERS, MANNERS):
            row = row_by_rule(value(number), of)
            right = reckoned(rows, number, manner)
            machine = One(rows, Row(row, of), manner)
            told = machine.terms(1000)
            self.assertEqual(told, ([], "nought") if right is None else (right, "end"), (rows, number, of, manner))
            self.assertEqual(machine.ask(999), ("nought",) if right is None else ("end",))
            self.assertEqual(plain_one(rows, number, 60, manner), told)

    def test_of_rows_of_twelve_figures(self):
        row = [123456789012 + 7919 * k for k in range(100)]
        for of, manner, sign in product(MANNERS, MANNERS, (1, -1)):
            terms = row if of != "near" else [sign * term for term in row]
            terms = [sign * terms[0]] + terms[1:]
            machine = One(TWELVE, Row(terms, of), manner, 64)
            number = Row(terms, of)
            number.ask(100)
            exact = number_by_rule(TWELVE, number.bounds()[0])
            self.assertEqual(machine.terms(1000), (first_by_rule_and_rest(exact, 1000, manner)[0], "more"))
            low, high = map(value, machine.bounds())
            self.assertTrue(low <= exact <= high)

    def test_of_an_endless_row(self):
        # Root 2, its double, its half and one over it.
        for rows, ahead, again in ((PLAIN, [1], [2]), (((2, 0), (0, 1)), [2], [1, 4]), (TURNED, [0, 1], [2]),
                                   (((1, 0), (0, 2)), [0, 1], [2])):
            right = Ruled(ahead, again).terms(200)
            self.assertEqual(One(rows, Ruled([1], [2])).terms(200), right)
        # e - 1 of e, and twice e.
        self.assertEqual(One(((1, -1), (0, 1)), endless()).terms(9)[0], [1, 1, 2, 1, 1, 4, 1, 1, 6])
        self.assertEqual(One(((2, 0), (0, 1)), endless()).terms(9)[0], [5, 2, 3, 2, 3, 1, 2, 1, 3])

    def test_a_depth_for_each_machine(self):
        stream = endless()
        for depth in range(1, 5):
            stream = Tail(same(stream), 0) if depth == 2 else same(stream)
            self.assertEqual(stream.depth(), depth)
        self.assert_refused(TooMany, 5, One, PLAIN, stream)
        self.assert_refused(TooMany, 5, One, PLAIN, Tail(stream, 3))
        self.assertEqual(stream.terms(30), endless().terms(30))

    def test_four_deep_as_one_machine(self):
        chance = random.Random(72)
        for _ in range(60):
            number = (chance.randint(-99, 99), 101)
            whole, stream = PLAIN, Row(row_by_rule(value(number), "near"), "near")
            manner = None
            for _ in range(4):
                rows = chance.choice(ROWS)
                manner = chance.choice(MANNERS)
                if number_by_rule(multiplied(rows, whole), number) is None:
                    continue
                whole, stream = multiplied(rows, whole), One(rows, stream, manner)
            if manner and isinstance(stream, Machine):
                manner = stream.manner()
                right = (reckoned(whole, number, manner), "end")
                self.assertEqual(asked_on(stream, 1000), right)
                direct = One(whole, Row(row_by_rule(value(number), "ceil"), "ceil"), manner)
                self.assertEqual(asked_on(direct, 1000), right)

    def test_endless_ones_one_behind_another(self):
        for one, other, manner, last in product(ROWS, ROWS[:6], MANNERS, MANNERS):
            two = One(other, One(one, endless(), manner), last)
            self.assertEqual(asked_on(two, 12), One(multiplied(other, one), endless(), last).terms(12))

    def test_into_a_manner_and_back(self):
        for of, manner in product(MANNERS, MANNERS):
            for number in fractions_to(7, 2):
                row = row_by_rule(value(number), of)
                back = same(same(Row(row, of), manner), of)
                self.assertEqual(back.terms(100), (row, "end"))
            stream = Ruled([3], [4, 3, 7], [1, 0, 0], of)
            self.assertEqual(same(same(stream, manner), of).terms(60), stream.terms(60))


def multiplied(one, other):
    (a, b), (c, d) = one
    (e, f), (g, h) = other
    return ((a * e + b * g, a * f + b * h), (c * e + d * g, c * f + d * h))


class Plain(Asking):
    def test_known(self):
        self.assertEqual(plain_one(((2, 0), (0, 1)), (22, 7), 60), ([6, 3, 2], "end"))
        self.assertEqual(plain_one(PLAIN, (22, 7), 2), ([3, 7], "more"))
        self.assertEqual(plain_one(PLAIN, (22, 7), 3), ([3, 7], "end"))
        self.assertEqual(plain_one(PLAIN, (22, 7), 2, "ceil"), ([4, 2], "more"))
        self.assertEqual(plain_one(PLAIN, (1, 10 ** 29), 60, manner="ceil"), ([1] + [2] * 59, "more"))

    def test_many_of_0_of_60_and_of_61(self):
        self.assertEqual(plain_one(PLAIN, (22, 7), 0), ([], "more"))
        self.assertEqual(plain_one(((1, 0), (1, -3)), (3, 1), 0), ([], "more"))
        self.assertEqual(plain_one(((1, 0), (1, -3)), (3, 1), 1), ([], "nought"))
        self.assertEqual(plain_one(((1, 0), (1, -3)), (3, 1), 60), ([], "nought"))
        self.assertEqual(plain_one(PLAIN, (1, 60), 60, "ceil"), ([1] + [2] * 59, "more"))
        self.assertEqual(plain_one(PLAIN, (1, 59), 60, "ceil"), ([1] + [2] * 58, "end"))
        for many in (61, -1, 10 ** 12):
            self.assert_refused(NoNumber, many, plain_one, PLAIN, (22, 7), many)

    def test_against_the_rule(self):
        for rows, manner, number in product(ROWS, MANNERS, fractions_to(6, 2)):
            right = reckoned(rows, number, manner)
            for many in (1, 2, 5, 60):
                found = plain_one(rows, number, many, manner)
                if right is None:
                    self.assertEqual(found, ([], "nought"))
                else:
                    self.assertEqual(found, (right[:many], "more" if len(right) >= many else "end"))

    def test_refused(self):
        for thing in any_things():
            if not is_two_rows(thing):
                self.assert_refused(NoRows, thing, plain_one, thing, (22, 7), 5)
                self.assert_refused(NoRows, thing, plain_one, thing, None, None, None)
            elif not is_steep(thing):
                self.assert_refused(Flat, thing, plain_one, thing, (22, 7), 5)
                self.assert_refused(Flat, thing, plain_one, thing, None, None, None)
        for thing in all_but(is_lowest):
            self.assert_refused(NoFraction, thing, plain_one, PLAIN, thing, 5)
            self.assert_refused(NoFraction, thing, plain_one, PLAIN, thing, 61, None)
        for thing in all_but(from_to(0, 60)):
            self.assert_refused(NoNumber, thing, plain_one, PLAIN, (22, 7), thing)
            self.assert_refused(NoNumber, thing, plain_one, PLAIN, (22, 7), thing, "x")
        for thing in all_but(is_manner_word):
            self.assert_refused(NoManner, thing, plain_one, PLAIN, (22, 7), 5, thing)
            self.assert_refused(NoManner, thing, plain_one, PLAIN, (22, 7), 0, thing)

    def test_told_anew(self):
        self.assert_new_each_time(lambda many: plain_one(PLAIN, (355, 113), many)[0], 3)


class Apart(Asking):
    def test_against_the_words(self):
        numbers = fractions_to(4, 2)
        for rows, (of, manner) in product(ROWS[1:8:3], product(MANNERS, MANNERS)):
            for one, other in product(numbers[::2], numbers[1::2]):
                for terms in ([], row_by_rule(value(one), of)[:1], row_by_rule(value(other), of)[:2]):
                    for place in (0, 1, 2):
                        right = are_apart(rows, terms, one, other, place, manner, of)
                        self.assertIs(shows_apart(rows, terms, one, other, place, manner, of), right)
                        self.assertIs(shows_apart(rows, tuple(terms), other, one, place, manner, of), right)

    def test_of_the_told_parts(self):
        for rows, (of, manner) in product(ROWS, product(MANNERS, MANNERS)):
            for number in ((17, 5), (-8, 13), (2, 1)):
                stream = Fed(of)
                machine = One(rows, stream, manner)
                for term in row_by_rule(value(number), of):
                    stream.feed(term)
                    while machine.ask(machine.asked())[0] == "term":
                        pass
                    if machine.ask(machine.asked())[0] == "open":
                        one, other = machine.parts()
                        place, terms = machine.asked(), machine.state()[0][0]
                        self.assertTrue(are_apart(rows, terms, one, other, place, manner, of))
                        self.assertIs(shows_apart(rows, terms, one, other, place, manner, of), True)
                        self.assertIs(shows_apart(rows, terms, other, one, place, manner, of), True)
                        self.assertIs(shows_apart(rows, terms, one, one, place, manner, of), False)
                        self.assertIs(shows_apart(rows, terms, one, other, place + 1, manner, of), False)

    def test_places(self):
        # 22/7 is 3 and 7, and 355/113 is 3, 7 and 16.
        self.assertIs(shows_apart(PLAIN, [3, 7], (22, 7), (355, 113), 2), True)
        for place in (0, 1, 3, 998, 999):
            self.assertIs(shows_apart(PLAIN, [3, 7], (22, 7), (355, 113), place), False)
        self.assertIs(shows_apart(PLAIN, [3], (22, 7), (25, 8), 1), True)
        self.assertIs(shows_apart(PLAIN, [3], (22, 7), (25, 8), place=0), False)
        # Behind the last term of both.
        self.assertIs(shows_apart(PLAIN, [3], (22, 7), (25, 8), 2), False)
        self.assertIs(shows_apart(PLAIN, [3, 7], (22, 7), (22, 7), 2), False)
        # In `ceil` the one has 999 terms, the next one 1,000, and the last one 1,001.
        self.assertIs(shows_apart(PLAIN, [0], (1, 999), (1, 1000), 999, "ceil"), True)
        self.assertIs(shows_apart(PLAIN, [0], (1, 1000), (1, 1001), 999, "ceil"), False)
        self.assertIs(shows_apart(PLAIN, [0], (1, 1000), (1, 1001), 1000, "ceil"), False)
        self.assertIs(shows_apart(PLAIN, [1, 2], (1, 10 ** 29), (1, 10 ** 29 + 1), 999, "ceil", "ceil"), False)

    def test_a_bottom_of_nought(self):
        rows = ((1, 0), (1, -3))
        self.assertIs(shows_apart(rows, [3], (3, 1), (22, 7), 0), True)
        self.assertIs(shows_apart(rows, [3], (22, 7), (3, 1), 0), True)
        self.assertIs(shows_apart(rows, [3], (3, 1), (3, 1), 0), False)
        self.assertIs(shows_apart(rows, [3], (3, 1), (22, 7), 1), False)
        self.assertIs(shows_apart(rows, [], (3, 1), (5, 1), 0), True)

    def test_numbers_that_begin_otherwise(self):
        self.assertIs(shows_apart(PLAIN, [3, 7], (22, 7), (25, 8), 1), False)
        self.assertIs(shows_apart(PLAIN, [4], (22, 7), (25, 8), 1), False)
        self.assertIs(shows_apart(PLAIN, [3, 7, 1], (22, 7), (29, 9), 2), False)
        self.assertIs(shows_apart(PLAIN, [3, 8], (22, 7), (25, 8), 1), False)
        # 22/7 begins with 4 and 2 in `ceil`, and with 3 in the others.
        self.assertIs(shows_apart(PLAIN, [4, 2], (22, 7), (23, 7), 1, of="ceil"), True)
        self.assertIs(shows_apart(PLAIN, [3], (22, 7), (20, 7), 1, of="near", manner="near"), True)
        self.assertIs(shows_apart(PLAIN, [3], (22, 7), (20, 7), 1, manner="near"), False)

    def test_of_any_things(self):
        good = ([3], (22, 7), (25, 8), 1)
        self.assertIs(shows_apart(PLAIN, *good), True)
        for at, fits in ((0, is_numbers), (1, is_lowest), (2, is_lowest), (3, from_to(0, 999))):
            for thing in any_things():
                handed = list(good)
                handed[at] = thing
                right = fits(thing) and are_apart(PLAIN, *handed, "floor", "floor")
                self.assertIs(shows_apart(PLAIN, *handed), right)
        for thing in any_things():
            self.assertIs(shows_apart(PLAIN, thing, thing, thing, thing), False)
        for wrong in ([True], [3.0], ["3"], {3: 3}, "3", None):
            self.assertIs(shows_apart(PLAIN, wrong, (22, 7), (25, 8), 1), False)
        self.assertIs(shows_apart(PLAIN, [], (True, 1), (2, 1), 0), False)
        self.assertIs(shows_apart(PLAIN, [], (1, 1), (2, 1), False), False)
        self.assertIs(shows_apart(PLAIN, [], (1, 1), (2, 1), 0), True)

    def test_refused(self):
        good = ([3], (22, 7), (25, 8), 1)
        for thing in any_things():
            if not is_two_rows(thing):
                self.assert_refused(NoRows, thing, shows_apart, thing, *good)
                self.assert_refused(NoRows, thing, shows_apart, thing, None, None, None, None, None, None)
            elif not is_steep(thing):
                self.assert_refused(Flat, thing, shows_apart, thing, *good)
                self.assert_refused(Flat, thing, shows_apart, thing, None, None, None, None, None, None)
        for thing in all_but(is_manner_word):
            for handed in (good, (None, None, None, None)):
                self.assert_refused(NoManner, thing, shows_apart, PLAIN, *handed, thing)
                self.assert_refused(NoManner, thing, shows_apart, PLAIN, *handed, thing, None)
                self.assert_refused(NoManner, thing, shows_apart, PLAIN, *handed, "near", thing)
                self.assert_refused(NoManner, thing, shows_apart, PLAIN, *handed, of=thing)


class Refused(Asking):
    def test_of_any_thing(self):
        stream = Row([3, 7])
        for thing in any_things():
            if not is_two_rows(thing):
                self.assert_refused(NoRows, thing, One, thing, stream)
                self.assert_refused(NoRows, thing, One, thing, None, None, None)
            elif not is_steep(thing):
                self.assert_refused(Flat, thing, One, thing, stream)
                self.assert_refused(Flat, thing, One, thing, None, None, None)
        for thing in all_but(is_stream):
            self.assert_refused(NoStream, thing, One, PLAIN, thing)
            self.assert_refused(NoStream, thing, One, PLAIN, thing, None, None)
        for thing in all_but(is_manner_word):
            self.assert_refused(NoManner, thing, One, PLAIN, stream, thing)
            self.assert_refused(NoManner, thing, One, PLAIN, stream, thing, 0)
        for thing in all_but(from_to(1, 64)):
            self.assert_refused(NoNumber, thing, One, PLAIN, stream, "near", thing)
            self.assert_refused(NoNumber, thing, One, PLAIN, stream, most=thing)
        self.assertEqual(stream.asked(), 0)

    def test_in_their_order(self):
        stream = endless()
        for _ in range(4):
            stream = same(stream)
        self.assert_refused(NoManner, "x", One, PLAIN, stream, "x", 0)
        self.assert_refused(NoNumber, 65, One, PLAIN, stream, "floor", 65)
        self.assert_refused(TooMany, 5, One, PLAIN, stream, "floor", 64)
        self.assertEqual(stream.asked(), 0)

    def test_rows_of_one_proportion(self):
        for rows in (((1, 2), (2, 4)), ((0, 0), (1, 2)), ((1, 2), (0, 0)), ((0, 5), (0, 7)), ((-3, 6), (1, -2)),
                     ((10 ** 11, 1), (10 ** 11, 1))):
            self.assert_refused(Flat, rows, One, rows, endless())

    def test_left_out_and_named(self):
        machine = One(PLAIN, endless())
        self.assertEqual((machine.manner(), machine.depth()), ("floor", 1))
        machine = One(PLAIN, endless(), most=64, manner="near")
        self.assertEqual(machine.manner(), "near")
        self.assertIsInstance(machine, Machine)
        self.assertIsInstance(machine, Stream)
