from fractions import Fraction
from math import ceil, floor

from termstream.errors import NoFraction, NoNumber
from termstream.nearest import nearest, nearest_row, neighbours, shows_neighbours
from tests.search import fractions_to, told, value
from tests.things import Asking, all_but, any_things, is_lowest, is_whole_number

PI = (314159265358979323846264338327, 10 ** 29)
LARGE = [PI, (-PI[0], PI[1]), (123456789012345678901234567891, 987654321098765432109876543211),
         (1, 10 ** 29), (-1, 10 ** 29), (10 ** 29 - 1, 10 ** 29), (10 ** 29 + 1, 10 ** 29)]
BOUNDS = [1, 2, 7, 113, 200, 201, 10 ** 6, 10 ** 12, 10 ** 29 - 1, 10 ** 29, 10 ** 29 + 1, 10 ** 30 - 1]


def is_bound(thing):
    return is_whole_number(thing) and thing >= 1


def searched(fraction, bound):
    """The two neighbours, by looking at all bottoms up to the bound."""
    number = value(fraction)
    low = max(Fraction(floor(number * bottom), bottom) for bottom in range(1, bound + 1))
    high = min(Fraction(ceil(number * bottom), bottom) for bottom in range(1, bound + 1))
    return (told(low), told(high))


def nearer(fraction, pair):
    """The nearer one of the two; then the lesser bottom; then the lesser one."""
    number = value(fraction)
    return min(pair, key=lambda part: (abs(value(part) - number), part[1], part))


class Neighbours(Asking):
    def test_against_a_search(self):
        for fraction in fractions_to(17):
            for bound in range(1, 19):
                pair = searched(fraction, bound)
                self.assertEqual(neighbours(fraction, bound), pair)
                self.assertEqual(nearest(fraction, bound), nearer(fraction, pair))

    def test_one_fraction_at_all_bounds(self):
        for fraction in ((355, 113), (-355, 113), (1, 113), (112, 113), (-1, 113)):
            for bound in range(1, 120):
                self.assertEqual(neighbours(fraction, bound), searched(fraction, bound))

    def test_a_bound_below_at_and_above_the_bottom(self):
        self.assertEqual(neighbours((22, 7), 6), ((3, 1), (19, 6)))
        self.assertEqual(neighbours((22, 7), 7), ((22, 7), (22, 7)))
        self.assertEqual(neighbours((22, 7), 8), ((22, 7), (22, 7)))
        self.assertEqual(neighbours((3, 1), 1), ((3, 1), (3, 1)))
        self.assertEqual(neighbours((0, 1), 10 ** 30), ((0, 1), (0, 1)))

    def test_large_ones_by_their_equation(self):
        for fraction in LARGE:
            for bound in BOUNDS:
                found = neighbours(fraction, bound)
                self.assertEqual([type(part) for part in (found, *found)], [tuple] * 3)
                (a, b), (c, d) = found
                if fraction[1] <= bound:
                    self.assertEqual(found, (fraction, fraction))
                    continue
                self.assertTrue(1 <= b <= bound and 1 <= d <= bound)
                self.assertEqual(c * b - a * d, 1)
                self.assertGreater(b + d, bound)
                self.assertTrue(Fraction(a, b) < value(fraction) < Fraction(c, d))

    def test_refused(self):
        for call in (neighbours, nearest, nearest_row):
            for thing in all_but(is_lowest):
                self.assert_refused(NoFraction, thing, call, thing, 7)
                self.assert_refused(NoFraction, thing, call, thing, 0)
            for thing in all_but(is_bound):
                self.assert_refused(NoNumber, thing, call, (22, 7), thing)


class Shown(Asking):
    def test_just_the_told_pair(self):
        for fraction in fractions_to(6, 1):
            for bound in range(1, 8):
                pair = neighbours(fraction, bound)
                self.assertIs(shows_neighbours(fraction, bound, pair), True)
                for low in fractions_to(bound, 1):
                    for high in fractions_to(bound, 1):
                        self.assertIs(shows_neighbours(fraction, bound, (low, high)), (low, high) == pair)

    def test_large_ones(self):
        for fraction in LARGE:
            for bound in BOUNDS:
                low, high = neighbours(fraction, bound)
                self.assertIs(shows_neighbours(fraction, bound, (low, high)), True)
                self.assertIs(shows_neighbours(fraction, bound, (high, low)), low == high)
                self.assertIs(shows_neighbours(fraction, bound, (low, (high[0] + high[1], high[1]))), False)

    def test_other_kinds_show_nothing(self):
        right = ((3, 1), (22, 7))
        self.assertIs(shows_neighbours((355, 113), 7, right), True)
        for thing in ([(3, 1), (22, 7)], ([3, 1], (22, 7)), ((3, 1), [22, 7]), (*right, (4, 1)), right[:1],
                      ((3, True), (22, 7)), ((6, 2), (22, 7)), {(3, 1): (22, 7)}, "((3, 1), (22, 7))"):
            self.assertIs(shows_neighbours((355, 113), 7, thing), False)
        self.assertIs(shows_neighbours((1, 1), 1, ((True, 1), (1, 1))), False)
        self.assertIs(shows_neighbours((1, 1), 1, ((1, 1), (1, True))), False)
        self.assertIs(shows_neighbours((0, 1), 1, ((0, 1), (False, 1))), False)

    def test_of_any_thing(self):
        for thing in any_things():
            self.assertIs(shows_neighbours((355, 113), 7, thing), thing == ((3, 1), (22, 7)))

    def test_refused(self):
        for thing in all_but(is_lowest):
            self.assert_refused(NoFraction, thing, shows_neighbours, thing, None, None)
        for thing in all_but(is_bound):
            self.assert_refused(NoNumber, thing, shows_neighbours, (22, 7), thing, None)


class Nearest(Asking):
    def test_as_near(self):
        self.assertEqual(nearest((1, 2), 1), (0, 1))
        self.assertEqual(nearest((-1, 2), 1), (-1, 1))
        self.assertEqual(nearest((7, 2), 1), (3, 1))
        self.assertEqual(nearest((1, 4), 2), (0, 1))
        self.assertEqual(nearest((3, 4), 2), (1, 1))
        self.assertEqual(nearest((-1, 4), 2), (0, 1))
        self.assertEqual(nearest((5, 12), 3), (1, 2))

    def test_large_ones(self):
        for fraction in LARGE:
            for bound in BOUNDS:
                self.assertEqual(nearest(fraction, bound), nearer(fraction, neighbours(fraction, bound)))
        self.assertEqual(nearest(PI, 113), (355, 113))


class Listed(Asking):
    def assert_listed(self, fraction, bound):
        found = nearest_row(fraction, bound)
        self.assertEqual(found[0][0], 1)
        self.assertLessEqual(found[-1][0], bound)
        for before, behind in zip(found, found[1:]):
            self.assertLess(before[0], behind[0])
            self.assertNotEqual(before[1], behind[1])
        for most in range(1, bound + 1):
            last = [part for start, part in found if start <= most][-1]
            self.assertEqual(last, nearest(fraction, most))

    def test_against_the_nearest(self):
        for fraction in fractions_to(5) + [(355, 113), (-355, 113), (1, 199), (1, 200), (1, 201)] + LARGE:
            self.assert_listed(fraction, 200)
            for bound in (1, 2, 3, 99, 199):
                self.assert_listed(fraction, bound)

    def test_known(self):
        self.assertEqual(nearest_row((22, 7)), [
            (1, (3, 1)), (4, (13, 4)), (5, (16, 5)), (6, (19, 6)), (7, (22, 7))])
        self.assertEqual(nearest_row((1, 2)), [(1, (0, 1)), (2, (1, 2))])
        self.assertEqual(nearest_row((3, 1)), [(1, (3, 1))])
        self.assertEqual(nearest_row((1, 200), 200)[-1], (200, (1, 200)))
        self.assertEqual(nearest_row((1, 200), 199)[-1][1], (1, 199))
        self.assertEqual(nearest_row((1, 200), bound=1), [(1, (0, 1))])

    def test_two_hundred_where_nothing_is_told(self):
        self.assertEqual(nearest_row(PI), nearest_row(PI, 200))
        self.assertNotEqual(nearest_row((1, 200)), nearest_row((1, 200), 199))

    def test_refused_above_two_hundred(self):
        for bound in (201, 202, 10 ** 12, 10 ** 30):
            self.assert_refused(NoNumber, bound, nearest_row, (22, 7), bound)
            self.assert_refused(NoFraction, (4, 2), nearest_row, (4, 2), bound)

    def test_told_anew(self):
        self.assert_new_each_time(nearest_row, (22, 7), 10)
        for part in nearest_row((22, 7)):
            self.assertEqual((type(part), type(part[0]), type(part[1])), (tuple, int, tuple))
