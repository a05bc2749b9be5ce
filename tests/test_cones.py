from fractions import Fraction
from itertools import product
from math import gcd

from termstream.cones import cone, is_cone
from termstream.errors import NoManner, NoRow
from termstream.manners import may_end
from tests.search import MANNERS, is_beginning_by_rule, is_rest, lists_of
from tests.things import Asking, all_but, any_things, is_numbers

CONES = (
    (((1, 1), False), ((1, 0), True)),
    (((1, 1), False), ((1, 0), False)),
    (((2, 1), False), ((2, -1), True)),
    (((2, 1), False), ((1, 0), False)),
    (((1, 0), True), ((2, -1), True)),
)
ONE, ENDLESS, FAR, ABOVE, BELOW = CONES
RESTS = [(top, bottom) for bottom in range(1, 6) for top in range(-20, 21) if gcd(top, bottom) == 1]


def has(sides, top, bottom):
    """Whether the cone has the rest top / bottom, by the words of the document."""
    ((a, b), first_in), ((c, d), second_in) = sides
    for p, q in ((top, bottom), (-top, -bottom)):
        # The one k and l of k * u + l * v = (p, q), by Cramer's rule.
        k = Fraction(p * d - q * c, a * d - b * c)
        m = Fraction(a * q - b * p, a * d - b * c)
        if k >= 0 and m >= 0 and (k > 0 or second_in) and (m > 0 or first_in):
            return True
    return False


class Cones(Asking):
    def test_all_rests_and_nothing_else(self):
        for manner in MANNERS:
            for terms in lists_of((-3, -2, 1, 2, 3), 3):
                if not terms or not is_beginning_by_rule(terms, manner):
                    continue
                found = cone(terms, manner)
                for top, bottom in RESTS:
                    right = is_rest(terms, Fraction(top, bottom), manner)
                    self.assertIs(has(found, top, bottom), right, (terms, manner, top, bottom))
                self.assertIs(has(found, 1, 0), may_end(terms, manner))

    def test_by_the_last_term(self):
        for terms, found in (([3], ONE), ([1], ONE), ([3, 1], ENDLESS), ([3, 2], ONE), ([3, 1, 1], ENDLESS),
                             ([3, 1, 2], ONE), ([1, 1], ENDLESS), ([2], ONE), ([-2], ONE)):
            self.assertEqual(cone(terms, "floor"), found)
            self.assertEqual(cone(tuple(terms)), found)
        for terms in ([3], [1], [2], [-2], [3, 2], [3, 2, 2], [3, 5]):
            self.assertEqual(cone(terms, "ceil"), ONE)
        for terms, found in (([3], FAR), ([2], FAR), ([-2], FAR), ([1], FAR), ([0, 2], ABOVE), ([0, -2], BELOW),
                             ([2, 2], ABOVE), ([-2, -2], BELOW), ([0, 3], FAR), ([0, -3], FAR),
                             ([0, 2, 2], ABOVE), ([0, 2, 3], FAR), ([0, -2, -3], FAR), ([0, 3, -2], BELOW)):
            self.assertEqual(cone(terms, manner="near"), found)

    def test_terms_of_twelve_figures(self):
        terms = [123456789012 + 7919 * k for k in range(99)]
        self.assertEqual(cone(terms), ONE)
        self.assertEqual(cone(terms + [1]), ENDLESS)
        self.assertEqual(cone(terms + [2], "near"), ABOVE)
        self.assertEqual(cone(terms + [-2], "near"), BELOW)

    def test_kinds(self):
        for terms, manner in (([3], "floor"), ([3, 1], "floor"), ([3], "near"), ([0, 2], "near"), ([0, -2], "near")):
            found = cone(terms, manner)
            self.assertIs(type(found), tuple)
            for side in found:
                self.assertEqual((type(side), type(side[0]), type(side[1])), (tuple, tuple, bool))
            self.assertIs(is_cone(found), True)

    def test_refused(self):
        for manner in MANNERS:
            for thing in all_but(lambda part: is_numbers(part) and part and is_beginning_by_rule(part, manner)):
                self.assert_refused(NoRow, thing, cone, thing, manner)
        for thing in ([], (), [3, 0], [3, -1], None, [3, True]):
            self.assert_refused(NoRow, thing, cone, thing)
        for manner in all_but(lambda part: isinstance(part, str) and part in MANNERS):
            for thing in ([3, 7], [], None, [3, 0]):
                self.assert_refused(NoManner, manner, cone, thing, manner)

    def test_nothing_is_changed(self):
        terms = [3, 1]
        cone(terms)
        self.assertEqual(terms, [3, 1])


class Kinds(Asking):
    def test_just_the_five(self):
        vectors = ((1, 1), (1, 0), (2, 1), (2, -1), (0, 1), (-1, 0))
        sides = list(product(vectors, (True, False)))
        for thing in product(sides, sides):
            self.assertIs(is_cone(thing), thing in CONES)

    def test_other_kinds_are_none(self):
        for thing in ([((1, 1), False), ((1, 0), True)], ([(1, 1), False], ((1, 0), True)),
                      (([1, 1], False), ((1, 0), True)), (((1, 1), False), [(1, 0), True]),
                      (((1, 1), 0), ((1, 0), True)), (((1, 1), False), ((1, 0), 1)),
                      (((True, 1), False), ((1, 0), True)), (((1, 1), False), ((1, False), True)),
                      (((1, 1), False), ((1, 0), True), ((1, 0), True)), (((1, 1), False),),
                      (((1, 1, 1), False), ((1, 0), True)), (((1, 1), False, False), ((1, 0), True)),
                      (((1, 1), None), ((1, 0), True)), (((1, 1), False), None), (ONE,), ONE[0],
                      ((1, False), (0, True)), ((None, False), ONE[1]), (((1,), False), ONE[1]),
                      (ONE[0], ((), True)), (ONE[0], ("ab", True))):
            self.assertIs(is_cone(thing), False, thing)

    def test_of_any_thing(self):
        for thing in any_things():
            self.assertIs(is_cone(thing), repr(thing) == repr(ONE))
