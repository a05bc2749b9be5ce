from fractions import Fraction
from itertools import product

from termstream.cones import is_cone
from termstream.errors import Flat, NoBounds, NoCone, NoFraction, NoManner, NoRows
from termstream.ranges import range_of, rows_times, settled
from tests.search import MANNERS, first_by_rule, fractions_to, is_same_range, sums_of, value
from tests.test_cones import ABOVE, BELOW, CONES, ENDLESS, FAR, ONE
from tests.things import (
    Asking, all_but, any_things, is_lowest, is_manner_word, is_steep, is_two_rows,
)

FLAGS = list(product((False, True), repeat=2))
HUGE = (314159265358979323846264338327, 10 ** 29)
HUGE_BELOW = (-314159265358979323846264338327, 10 ** 29)


def searched(low, low_in, high, high_in, manner):
    """The first term of all numbers of a range with ends of small bottoms, or None."""
    start, end = value(low), value(high)
    near = Fraction(1, 1000)
    numbers = [start] * low_in + [end] * high_in
    if start < end:
        numbers += [start + near, end - near, (start + end) / 2]
        numbers += [part for part in map(value, fractions_to(4, 2)) if start < part < end]
    terms = {first_by_rule(number, manner) for number in numbers}
    return terms.pop() if len(terms) == 1 else None


class Products(Asking):
    def test_of_rows(self):
        for a, b, c, d, e, f in product((-2, 0, 1, 3), repeat=6):
            one, other = ((a, b), (c, d)), ((e, f), (d, a))
            found = rows_times(one, other)
            self.assertEqual(found, ((a * e + b * d, a * f + b * a), (c * e + d * d, c * f + d * a)))
        self.assertEqual([type(part) for part in (found, *found)], [tuple] * 3)

    def test_large_and_flat_rows(self):
        many = 10 ** 29 + 7
        self.assertEqual(rows_times(((many, 0), (0, -many)), ((1, 2), (3, 4))),
                         ((many, 2 * many), (-3 * many, -4 * many)))
        self.assertEqual(rows_times(((1, 2), (2, 4)), ((0, 0), (0, 0))), ((0, 0), (0, 0)))
        self.assertEqual(rows_times(((1, 0), (0, 1)), ((3, 7), (1, 2))), ((3, 7), (1, 2)))

    def test_refused(self):
        good = ((1, 2), (3, 4))
        for thing in all_but(is_two_rows):
            self.assert_refused(NoRows, thing, rows_times, thing, good)
            self.assert_refused(NoRows, thing, rows_times, good, thing)
            self.assert_refused(NoRows, thing, rows_times, thing, None)


class Settled(Asking):
    def test_against_a_search(self):
        ends = fractions_to(4, 2)
        for low, high in product(ends, ends):
            for low_in, high_in in FLAGS:
                if value(low) > value(high) or (low == high and not (low_in and high_in)):
                    self.assert_refused(NoBounds, (low, high), settled, low, low_in, high, high_in)
                    continue
                for manner in MANNERS:
                    right = searched(low, low_in, high, high_in, manner)
                    found = settled(low, low_in, high, high_in, manner)
                    self.assertEqual(found, right, (low, low_in, high, high_in, manner))

    def test_ends_at_whole_numbers_and_halves(self):
        for high_in, floor, ceil in ((False, 3, 4), (True, None, 4)):
            self.assertEqual(settled((3, 1), True, (4, 1), high_in), floor)
            self.assertEqual(settled((3, 1), False, (4, 1), high_in, "ceil"), ceil)
            self.assertEqual(settled((3, 1), True, (4, 1), high_in, "ceil"), None)
        self.assertEqual(settled((5, 2), True, (7, 2), False, "near"), 3)
        self.assertEqual(settled((5, 2), False, (7, 2), False, "near"), 3)
        self.assertEqual(settled((5, 2), True, (7, 2), True, "near"), None)
        self.assertEqual(settled((-7, 2), True, (-5, 2), False, "near"), -3)
        self.assertEqual(settled((-7, 2), True, (-5, 2), True, "near"), None)
        self.assertEqual(settled((-1, 2), True, (1, 2), False, "near"), 0)

    def test_the_same_end_twice(self):
        for end, terms in (((7, 2), (3, 4, 4)), ((-7, 2), (-4, -3, -3)), ((3, 1), (3, 3, 3)), ((0, 1), (0, 0, 0)),
                           (HUGE, (3, 4, 3)), (HUGE_BELOW, (-4, -3, -3))):
            for manner, term in zip(MANNERS, terms):
                self.assertEqual(settled(end, True, end, True, manner), term)
            for low_in, high_in in FLAGS[:3]:
                self.assert_refused(NoBounds, (end, end), settled, end, low_in, end, high_in)

    def test_large_ends(self):
        top = 10 ** 29
        self.assertEqual(settled((top - 1, 1), True, (top, 1), False), top - 1)
        self.assertEqual(settled((top - 1, 1), False, (top, 1), True, "ceil"), top)
        self.assertEqual(settled((2 * top - 1, 2), True, (2 * top + 1, 2), False, manner="near"), top)
        self.assertIsNone(settled((2 * top - 1, 2), True, (2 * top + 1, 2), True, manner="near"))
        self.assertEqual(settled(HUGE_BELOW, True, (-3, 1), False), -4)

    def test_refused(self):
        for thing in all_but(is_lowest):
            self.assert_refused(NoFraction, thing, settled, thing, True, (1, 2), True)
            self.assert_refused(NoFraction, thing, settled, (1, 2), True, thing, True)
            self.assert_refused(NoFraction, thing, settled, thing, True, None, True, "ceil")
        for thing in all_but(is_manner_word):
            self.assert_refused(NoManner, thing, settled, (1, 2), True, (1, 1), True, thing)
            self.assert_refused(NoManner, thing, settled, None, True, (4, 2), True, thing)
            self.assert_refused(NoManner, thing, settled, (1, 1), True, (1, 2), True, thing)
        low, high = (22, 7), (3, 1)
        with self.assertRaises(NoBounds) as caught:
            settled(low, True, high, True)
        self.assertIs(caught.exception.found[0], low)
        self.assertIs(caught.exception.found[1], high)


class Ranges(Asking):
    def test_against_a_search(self):
        for a, b, c, d in product(range(-3, 4), repeat=4):
            if a * d == b * c:
                rows = ((a, b), (c, d))
                self.assert_refused(Flat, rows, range_of, rows, ONE)
                continue
            for cone in CONES:
                found = range_of(((a, b), (c, d)), cone)
                numbers = [(a * p + b * q, c * p + d * q) for p, q in sums_of(cone)]
                self.assertTrue(is_same_range(found, numbers), (a, b, c, d, cone, found))

    def test_known(self):
        self.assertEqual(range_of(((3, 1), (1, 0)), ONE), ((3, 1), True, (4, 1), False))
        self.assertEqual(range_of(((3, 1), (1, 0)), ENDLESS), ((3, 1), False, (4, 1), False))
        self.assertEqual(range_of(((3, -1), (1, 0)), ONE), ((2, 1), False, (3, 1), True))
        self.assertEqual(range_of(((3, 1), (1, 0)), FAR), ((5, 2), True, (7, 2), False))
        self.assertEqual(range_of(((3, 1), (1, 0)), ABOVE), ((3, 1), False, (7, 2), False))
        self.assertEqual(range_of(((3, 1), (1, 0)), BELOW), ((5, 2), True, (3, 1), True))

    def test_a_bottom_of_nought(self):
        # At a vector that is in, at one that isn't, and between the two.
        for rows in (((0, 1), (0, 1)), ((1, 0), (1, -1)), ((1, 0), (1, -2)), ((1, 0), (0, 1))):
            if rows[0][0] * rows[1][1] != rows[0][1] * rows[1][0]:
                self.assertIsNone(range_of(rows, ONE))
        self.assertIsNone(range_of(((1, 0), (0, 1)), ABOVE))
        self.assertIsNone(range_of(((1, 0), (1, 2)), BELOW))
        self.assertIsNone(range_of(((1, 0), (1, 2)), FAR))
        self.assertEqual(range_of(((1, 0), (1, 1)), FAR), ((2, 3), False, (2, 1), True))

    def test_large_rows(self):
        many = 10 ** 30 - 1
        self.assertEqual(range_of(((many, 1), (1, 0)), ONE), ((many, 1), True, (many + 1, 1), False))
        self.assertEqual(range_of(((-many, 0), (0, -1)), ONE), None)
        found = range_of(((-many, 1), (many - 1, 1)), ONE)
        self.assertEqual(found, ((-many, many - 1), True, (1 - many, many), False))

    def test_kinds(self):
        found = range_of(((3, 1), (1, 0)), ONE)
        self.assertEqual([type(part) for part in found], [tuple, bool, tuple, bool])
        self.assertIs(type(found), tuple)

    def test_refused(self):
        for thing in all_but(is_two_rows):
            self.assert_refused(NoRows, thing, range_of, thing, ONE)
            self.assert_refused(NoRows, thing, range_of, thing, None)
        for thing in any_things():
            if is_two_rows(thing) and not is_steep(thing):
                self.assert_refused(Flat, thing, range_of, thing, ONE)
                self.assert_refused(Flat, thing, range_of, thing, None)
        for thing in all_but(is_cone):
            self.assert_refused(NoCone, thing, range_of, ((3, 1), (1, 0)), thing)
