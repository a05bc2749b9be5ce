from fractions import Fraction
from itertools import product
from math import ceil, floor

from termstream.between import between, middle, parents, shows_between
from termstream.errors import NoBounds, NoFraction, NoneThere
from tests.search import fractions_to, told, value
from tests.things import Asking, all_but, any_things, is_lowest

ENDS = [None] + fractions_to(5, 2)
FLAGS = list(product((False, True), repeat=2))
LOW = (314159265358979323846264338327, 10 ** 29)
HIGH = (314159265358979323846264338329, 10 ** 29)


def is_end(thing):
    return thing is None or is_lowest(thing)


def is_range(low, high, low_in, high_in):
    if low is None or high is None or value(low) < value(high):
        return True
    return low == high and low_in and high_in


def is_within(number, low, high, low_in, high_in):
    if low is not None and (number < value(low) or (number == value(low) and not low_in)):
        return False
    return high is None or number < value(high) or (number == value(high) and high_in)


def searched(low, high, low_in, high_in):
    """The fraction in the range of the least bottom, the nearest to nought of whole ones."""
    start = value(low) if low is not None else value(high) - 9 if high is not None else Fraction(-9)
    end = value(high) if high is not None else start + 18
    # Of a range without an end all whole numbers near nought are looked at.
    start, end = (min(start, Fraction(-9)), end) if low is None else (start, end)
    start, end = (start, max(end, Fraction(9))) if high is None else (start, end)
    bottom = 1
    while True:
        tops = range(floor(start * bottom), ceil(end * bottom) + 1)
        found = [Fraction(top, bottom) for top in tops
                 if is_within(Fraction(top, bottom), low, high, low_in, high_in)]
        if found:
            return told(min(found, key=abs))
        bottom += 1


class Ranges(Asking):
    def test_against_a_search(self):
        for low, high in product(ENDS, ENDS):
            for low_in, high_in in FLAGS:
                if not is_range(low, high, low_in, high_in):
                    self.assert_refused(NoBounds, (low, high), between, low, high, low_in, high_in)
                    continue
                right = searched(low, high, low_in, high_in)
                self.assertEqual(between(low, high, low_in, high_in), right)
                self.assertIs(shows_between(low, high, right, low_in, high_in), True)

    def test_neither_end_is_in_where_nothing_is_told(self):
        self.assertEqual(between((1, 3), (1, 2)), (2, 5))
        self.assertEqual(between((1, 3), (1, 2), True), (1, 3))
        self.assertEqual(between((1, 3), (1, 2), high_in=True), (1, 2))
        self.assertEqual(between((1, 3), (1, 2), low_in=True, high_in=True), (1, 2))
        self.assertEqual(between((0, 1), (1, 1)), (1, 2))
        self.assertEqual(between((1, 1), (2, 1), high_in=True), (2, 1))

    def test_without_ends(self):
        for low_in, high_in in FLAGS:
            self.assertEqual(between(None, None, low_in, high_in), (0, 1))
            self.assertEqual(between((5, 2), None, low_in, high_in), (3, 1))
            self.assertEqual(between(None, (-5, 2), low_in, high_in), (-3, 1))
            self.assertEqual(between(None, (5, 2), low_in, high_in), (0, 1))
            self.assertEqual(between((-5, 2), None, low_in, high_in), (0, 1))
        self.assertEqual(between((0, 1), None), (1, 1))
        self.assertEqual(between((0, 1), None, True), (0, 1))
        self.assertEqual(between(None, (0, 1)), (-1, 1))
        self.assertEqual(between(None, (0, 1), False, True), (0, 1))
        self.assertEqual(between((3, 1), None, False, True), (4, 1))
        self.assertEqual(between(None, (-3, 1), True, False), (-4, 1))

    def test_whole_ones_nearest_to_nought(self):
        self.assertEqual(between((2, 1), (9, 1)), (3, 1))
        self.assertEqual(between((-9, 1), (-2, 1)), (-3, 1))
        self.assertEqual(between((-9, 1), (9, 1)), (0, 1))

    def test_large_ends(self):
        for low, high in ((LOW, HIGH), ((-HIGH[0], HIGH[1]), (-LOW[0], LOW[1])),
                          ((0, 1), (1, 10 ** 29)), ((10 ** 29 - 1, 10 ** 29), (1, 1)),
                          ((10 ** 29, 1), (10 ** 29 + 1, 1))):
            for low_in, high_in in FLAGS:
                found = between(low, high, low_in, high_in)
                self.assert_least(found, low, high, low_in, high_in)
                self.assertIs(shows_between(low, high, found, low_in, high_in), True)

    def assert_least(self, found, low, high, low_in, high_in):
        """It is in the range, and neither parent is, or no whole one nearer to nought."""
        self.assertTrue(is_lowest(found))
        self.assertTrue(is_within(value(found), low, high, low_in, high_in))
        if found[1] >= 2:
            others = [value(part) for part in parents(found)]
        else:
            others = [Fraction(found[0] - 1 if found[0] > 0 else found[0] + 1)] if found[0] else []
        for other in others:
            self.assertFalse(is_within(other, low, high, low_in, high_in))

    def test_the_same_fraction_twice(self):
        for fraction in ((22, 7), (0, 1), (-3, 1), LOW):
            self.assertEqual(between(fraction, fraction, True, True), fraction)
            for low_in, high_in in FLAGS[:3]:
                self.assert_refused(NoBounds, (fraction, fraction), between, fraction, fraction, low_in, high_in)
            self.assert_refused(NoBounds, (fraction, fraction), between, fraction, fraction)

    def test_refused(self):
        for thing in all_but(is_end):
            self.assert_refused(NoFraction, thing, between, thing, (1, 2))
            self.assert_refused(NoFraction, thing, between, (1, 2), thing)
            self.assert_refused(NoFraction, thing, between, thing, [4, 2])
            self.assert_refused(NoFraction, thing, between, None, thing)
            self.assert_refused(NoFraction, thing, shows_between, thing, (1, 2), (1, 1))
            self.assert_refused(NoFraction, thing, shows_between, (1, 2), thing, None)
        low, high = (22, 7), (3, 1)
        with self.assertRaises(NoBounds) as caught:
            shows_between(low, high, (3, 1), True, True)
        self.assertIs(type(caught.exception.found), tuple)
        self.assertIs(caught.exception.found[0], low)
        self.assertIs(caught.exception.found[1], high)


class Shown(Asking):
    def test_just_the_told_fraction(self):
        for low, high in product([None] + fractions_to(3, 1), repeat=2):
            for low_in, high_in in FLAGS:
                if is_range(low, high, low_in, high_in):
                    right = between(low, high, low_in, high_in)
                    for fraction in fractions_to(5, 3):
                        self.assertIs(shows_between(low, high, fraction, low_in, high_in), fraction == right)

    def test_of_any_thing(self):
        for thing in any_things():
            self.assertIs(shows_between((25, 8), (19, 6), thing), thing == (22, 7))
            self.assertIs(shows_between((22, 7), (19, 6), thing), False)
            self.assertIs(shows_between(None, None, thing, True, True), is_lowest(thing) and thing == (0, 1))
        self.assertIs(shows_between((0, 1), (2, 1), (True, 1)), False)
        self.assertIs(shows_between((0, 1), (2, 1), (1, True)), False)
        self.assertIs(shows_between((0, 1), (2, 1), [1, 1]), False)
        self.assertIs(shows_between((1, 2), (2, 1), (1, 1), low_in=True), True)
        self.assertIs(shows_between((1, 2), (1, 1), (1, 1), high_in=True), True)
        self.assertIs(shows_between((1, 2), (1, 1), (1, 1)), False)


class Parents(Asking):
    def test_against_a_search(self):
        for fraction in fractions_to(25, 2):
            if fraction[1] == 1:
                self.assert_refused(NoneThere, fraction, parents, fraction)
                continue
            (a, b), (c, d) = parents(fraction)
            self.assertTrue(is_lowest((a, b)) and is_lowest((c, d)))
            self.assertEqual(c * b - a * d, 1)
            self.assertEqual((a + c, b + d), fraction)
            self.assertEqual(middle((a, b), (c, d)), fraction)

    def test_bottoms_of_one_and_two(self):
        self.assertEqual(parents((5, 2)), ((2, 1), (3, 1)))
        self.assertEqual(parents((-5, 2)), ((-3, 1), (-2, 1)))
        self.assertEqual(parents((1, 2)), ((0, 1), (1, 1)))
        for fraction in ((0, 1), (1, 1), (-1, 1), (10 ** 29, 1)):
            self.assert_refused(NoneThere, fraction, parents, fraction)

    def test_large_ones(self):
        for fraction in (LOW, HIGH, (1, 10 ** 29), (-1, 10 ** 29), (10 ** 29 - 1, 10 ** 29)):
            found = parents(fraction)
            self.assertEqual(middle(*found), fraction)
            self.assertEqual([type(part) for part in (found, *found)], [tuple] * 3)

    def test_refused(self):
        self.assert_all_refused(NoFraction, is_lowest, parents)


class Middles(Asking):
    def test_side_by_side_or_not(self):
        small = fractions_to(6, 2)
        for one, other in product(small, small):
            if other[0] * one[1] - one[0] * other[1] == 1:
                found = middle(one, other)
                self.assertEqual(found, (one[0] + other[0], one[1] + other[1]))
                self.assertEqual(found, between(one, other))
            else:
                self.assert_refused(NoBounds, (one, other), middle, one, other)

    def test_edges(self):
        self.assertEqual(middle((0, 1), (1, 1)), (1, 2))
        self.assertEqual(middle((-1, 1), (0, 1)), (-1, 2))
        self.assertEqual(middle((10 ** 29, 1), (10 ** 29 + 1, 1)), (2 * 10 ** 29 + 1, 2))
        for one, other in (((1, 1), (0, 1)), ((1, 1), (1, 1)), ((0, 1), (2, 1)), ((1, 3), (2, 3))):
            self.assert_refused(NoBounds, (one, other), middle, one, other)

    def test_refused(self):
        for thing in all_but(is_lowest):
            self.assert_refused(NoFraction, thing, middle, thing, (1, 1))
            self.assert_refused(NoFraction, thing, middle, (0, 1), thing)
            self.assert_refused(NoFraction, thing, middle, thing, None)
        one, other = (1, 1), (0, 1)
        with self.assertRaises(NoBounds) as caught:
            middle(one, other)
        self.assertIs(caught.exception.found[0], one)
        self.assertIs(caught.exception.found[1], other)
