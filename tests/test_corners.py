import random
import unittest
from itertools import product

from termstream.cones import cone
from termstream.corners import form_at, range_over, sides_of
from termstream.ranges import range_of
from tests.search import MANNERS, is_beginning_by_rule, is_same_range, lists_of, sums_of
from tests.test_cones import ABOVE, BELOW, CONES, ENDLESS, FAR, ONE

END = (((1, 0), True),)
SIDES = [list(part) for part in (*CONES, END)]
SUMS = (1, 2, 10 ** 9)


def numbers_over(top, bottom, sides):
    """Many tops and bottoms of the sums of one cone, or of two."""
    found = []
    for vectors in product(*[sums_of(listed, SUMS) for listed in sides]):
        if len(sides) == 1:
            weights = vectors[0]
        else:
            (p, q), (r, s) = vectors
            weights = (p * r, p * s, q * r, q * s)
        found.append(tuple(sum(a * w for a, w in zip(form, weights)) for form in (top, bottom)))
    return found


class Sides(unittest.TestCase):
    def test_of_beginnings(self):
        for manner in MANNERS:
            for terms in lists_of((-3, -2, 1, 2, 3), 3):
                if terms and is_beginning_by_rule(terms, manner):
                    self.assertEqual(sides_of(terms, False, manner), list(cone(terms, manner)))
                    self.assertEqual(sides_of(terms, True, manner), [((1, 0), True)])
                    self.assertEqual(sides_of(tuple(terms), False, manner), list(cone(terms, manner)))

    def test_new_each_time(self):
        for ended in (False, True):
            first = sides_of([3, 7], ended, "floor")
            self.assertIs(type(first), list)
            first.append("more")
            self.assertNotEqual(sides_of([3, 7], ended, "floor"), first)

    def test_known(self):
        self.assertEqual(sides_of([3], False, "floor"), list(ONE))
        self.assertEqual(sides_of([3, 1], False, "floor"), list(ENDLESS))
        self.assertEqual(sides_of([3, 2], False, "near"), list(ABOVE))
        self.assertEqual(sides_of([3, -2], False, "near"), list(BELOW))
        self.assertEqual(sides_of([2], False, "near"), list(FAR))


class Forms(unittest.TestCase):
    def test_of_one_vector(self):
        for a, b, p, q in product((-3, 0, 1, 10 ** 29), repeat=4):
            self.assertEqual(form_at([a, b], [(p, q)]), a * p + b * q)
            self.assertEqual(form_at((a, b), [(p, q)]), a * p + b * q)

    def test_of_two_vectors(self):
        for a, b, c, d in product((-3, 0, 2), repeat=4):
            for p, q, r, s in ((1, 2, 3, 5), (-7, 1, 0, 4), (10 ** 20, -1, 2, 10 ** 9), (0, 0, 1, 1)):
                right = a * p * r + b * p * s + c * q * r + d * q * s
                self.assertEqual(form_at([a, b, c, d], [(p, q), (r, s)]), right)


class OneVector(unittest.TestCase):
    def test_against_a_search(self):
        for a, b, c, d in product(range(-2, 3), repeat=4):
            for listed in SIDES:
                found = range_over([a, b], [c, d], [listed])
                numbers = numbers_over((a, b), (c, d), [listed])
                self.assertTrue(is_same_range(found, numbers), (a, b, c, d, listed, found))

    def test_as_range_of_tells(self):
        for a, b, c, d in product((-7, -1, 0, 3), repeat=4):
            for part in CONES:
                if a * d != b * c:
                    self.assertEqual(range_over([a, b], [c, d], [list(part)]), range_of(((a, b), (c, d)), part))

    def test_of_one_side_alone(self):
        self.assertEqual(range_over([22, 5], [7, 3], [list(END)]), ((22, 7), True, (22, 7), True))
        self.assertIsNone(range_over([22, 5], [0, 3], [list(END)]))
        self.assertIsNone(range_over([0, 5], [0, 3], [list(END)]))
        self.assertEqual(range_over([0, 5], [-7, 3], [list(END)]), ((0, 1), True, (0, 1), True))

    def test_a_bottom_of_nought(self):
        # At a side that is in, at one that isn't, and between the two.
        self.assertIsNone(range_over([1, 0], [0, 1], [list(ONE)]))
        self.assertIsNone(range_over([1, 0], [1, -1], [list(ONE)]))
        self.assertIsNone(range_over([1, 0], [1, -2], [list(ONE)]))
        self.assertIsNone(range_over([1, 0], [0, 0], [list(ONE)]))
        self.assertIsNone(range_over([1, 0], [0, 1], [list(ENDLESS)]))
        self.assertIsNone(range_over([1, 0], [1, 2], [list(FAR)]))

    def test_rows_of_one_proportion(self):
        # What is no sum hinders nothing, though top and bottom are nought there.
        self.assertEqual(range_over([1, -1], [1, -1], [sides_of([3], False, "floor")]), ((1, 1), True, (1, 1), True))
        self.assertEqual(range_over([2, -2], [-3, 3], [list(ENDLESS)]), ((-2, 3), True, (-2, 3), True))
        self.assertEqual(range_over([0, 4], [0, 6], [list(ENDLESS)]), ((2, 3), True, (2, 3), True))
        self.assertIsNone(range_over([0, 4], [0, 6], [list(ONE)]))
        self.assertEqual(range_over([3, 5], [6, 10], [list(FAR)]), ((1, 2), True, (1, 2), True))
        self.assertEqual(range_over([0, 0], [6, 10], [list(FAR)]), ((0, 1), True, (0, 1), True))
        self.assertIsNone(range_over([1, 2], [1, 2], [list(FAR)]))

    def test_kinds_and_large_numbers(self):
        many = 10 ** 40 + 7
        found = range_over([many, 1], [1, 0], [list(ONE)])
        self.assertEqual(found, ((many, 1), True, (many + 1, 1), False))
        self.assertEqual([type(part) for part in found], [tuple, bool, tuple, bool])
        self.assertEqual(range_over((-many, 1), (-1, 0), [list(BELOW)]), ((many, 1), True, (2 * many + 1, 2), True))


class TwoVectors(unittest.TestCase):
    def assert_range(self, top, bottom, sides):
        found = range_over(list(top), list(bottom), sides)
        numbers = numbers_over(top, bottom, sides)
        self.assertTrue(is_same_range(found, numbers), (top, bottom, sides, found))

    def test_small_forms_against_a_search(self):
        chance = random.Random(81)
        for one, other in product(SIDES, SIDES):
            for _ in range(50):
                most = chance.choice((1, 1, 2, 5))
                top, bottom = [[chance.randint(-most, most) for _ in range(4)] for _ in range(2)]
                self.assert_range(top, bottom, [one, other])

    def test_forms_that_are_nought_at_corners(self):
        # Products of two forms are nought at all corners of one side, or of two.
        singles = ((1, -1), (0, 1), (1, -2), (1, 2), (1, 1))
        for (a, b), (c, d), one, other in product(singles, singles, SIDES, SIDES):
            top = (a * c, a * d, b * c, b * d)
            self.assert_range(top, top, [one, other])
            for bottom in ((a, a, b, b), (c, d, c, d), (1, 1, 1, 1)):
                self.assert_range(top, bottom, [one, other])
                self.assert_range(bottom, top, [one, other])

    def test_known(self):
        both = [list(ONE), list(ONE)]
        self.assertEqual(range_over([0, 1, 1, 0], [1, 1, 1, 1], both), ((0, 1), True, (1, 2), False))
        self.assertEqual(range_over([0, 1, 1, 0], [1, 0, 0, 0], both), ((0, 1), True, (2, 1), False))
        # The sum, the product and the quotient of two rests have no bound.
        for top, bottom in (([0, 1, 1, 0], [0, 0, 0, 1]), ([1, 0, 0, 0], [0, 0, 0, 1]), ([0, 1, 0, 0], [0, 0, 1, 0])):
            self.assertIsNone(range_over(top, bottom, both))
        # Of numbers from 3 to 4 and from 7 to 8 the quotient.
        self.assertEqual(range_over([3, 0, 1, 0], [7, 1, 0, 0], both), ((3, 8), False, (4, 7), False))

    def test_a_stream_that_has_ended(self):
        for listed in SIDES[:5]:
            for a, b, c, d in product((-2, 0, 1), repeat=4):
                right = range_over([a, b], [c, d], [listed])
                self.assertEqual(range_over([a, 5, b, 6], [c, 7, d, 8], [listed, list(END)]), right)
                self.assertEqual(range_over([a, b, 5, 6], [c, d, 7, 8], [list(END), listed]), right)
        self.assertEqual(range_over([22, 5, 6, 7], [7, 1, 2, 3], [list(END), list(END)]), ((22, 7), True, (22, 7), True))

    def test_nothing_is_changed(self):
        top, bottom, sides = [1, 2, 3, 4], [5, 6, 7, 8], [list(ONE), list(FAR)]
        range_over(top, bottom, sides)
        form_at(top, [(1, 2), (3, 4)])
        self.assertEqual((top, bottom, sides), ([1, 2, 3, 4], [5, 6, 7, 8], [list(ONE), list(FAR)]))
