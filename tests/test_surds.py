from fractions import Fraction
from itertools import product
from math import gcd, isqrt

from termstream.errors import NoNumber, NoSurd
from termstream.manners import row_of
from termstream.surds import Surd
from tests.search import row_by_rule, value
from tests.things import Asking, all_but, any_things, from_to, is_whole_number

HUGE = 10 ** 40
BIG = 314159265358979323846264338327
WORDS = {-1: "less", 0: "same", 1: "more"}
SMALL = list(product(range(-3, 4), range(9), (-3, -2, -1, 1, 2, 3)))
LARGE = [(BIG, 271828182845904523536028747135, 577215664901532860606512090082),
         (-BIG, 271828182845904523536028747135, 577215664901532860606512090082),
         (BIG, 271828182845904523536028747135, -577215664901532860606512090082),
         (-BIG, 161803398874989484820458683436, -141421356237309504880168872420),
         (0, 10 ** 29 + 7, 1), (10 ** 29, 2, -3), (5, 10 ** 30 - 1, 10 ** 29)]


def near(told):
    """The number, to about forty figures."""
    p, d, q = told
    return Fraction(p * HUGE + isqrt(d * HUGE * HUGE), q * HUGE)


def is_square(number):
    return isqrt(number) ** 2 == number


def signed(number):
    return (number > 0) - (number < 0)


def stands(fraction, told):
    """The sign of the fraction less (p + root d) / q, by whole products alone."""
    top, bottom = fraction
    p, d, q = told
    left = top * q - p * bottom
    if left <= 0:
        found = -1 if left or d else 0
    else:
        found = signed(left * left - bottom * bottom * d)
    return found * signed(q)


def floor_by_products(told):
    """The greatest whole number that isn't above, by halving."""
    low, high = -1, 1
    while stands((low, 1), told) > 0:
        low *= 2
    while stands((high, 1), told) <= 0:
        high *= 2
    while high - low > 1:
        middle = (low + high) // 2
        low, high = (middle, high) if stands((middle, 1), told) <= 0 else (low, middle)
    return low


def is_begun(terms, told):
    """Whether the number that isn't a fraction lies among those that begin with the terms."""
    (a, b), (c, d) = (1, 0), (0, 1)
    for term in terms:
        (a, b), (c, d) = (a * term + b, a), (c * term + d, c)
        one, other = stands((a, c), told), stands((a + b, c + d), told)
        if one * other != -1:
            return False
    return all(term >= 1 for term in terms[1:])


def rounds_of(row, least_ahead, least_round):
    """Whether the long row comes round by so many terms ahead and so many again."""
    return all(row[at] == row[at + least_round] for at in range(least_ahead, len(row) - least_round))


class Made(Asking):
    def test_told_as_handed_in(self):
        for told in SMALL + LARGE + [(4, 18, 6), (-4, 0, -6)]:
            self.assertEqual(Surd(*told).told(), told)
            self.assertEqual(str(Surd(*told)), f"({told[0]} + root {told[1]}) / {told[2]}")
            self.assertEqual(repr(Surd(*told)), f"Surd({told[0]}, {told[1]}, {told[2]})")
        self.assertEqual(Surd(3, 7).told(), (3, 7, 1))
        self.assertEqual(Surd(3, 7, q=2).told(), (3, 7, 2))
        self.assertEqual(str(Surd(1, 5, -2)), "(1 + root 5) / -2")
        self.assertEqual(repr(Surd(1, 5, -2)), "Surd(1, 5, -2)")

    def test_never_changed(self):
        number = Surd(4, 18, 6)
        for deed in (number.fraction, number.other_root, number.equation, number.floor, number.rest, number.terms,
                     number.comes_round, number.reduced, lambda: number == Surd(1, 2), lambda: str(number)):
            first = deed()
            self.assertEqual(deed(), first)
            self.assertEqual(number.told(), (4, 18, 6))

    def test_refused(self):
        for thing in any_things():
            if not is_whole_number(thing):
                self.assert_refused(NoSurd, thing, Surd, thing, 2, 1)
                self.assert_refused(NoSurd, thing, Surd, thing, -1, 0)
            if not (is_whole_number(thing) and thing >= 0):
                self.assert_refused(NoSurd, thing, Surd, 1, thing, 1)
                self.assert_refused(NoSurd, thing, Surd, 1, thing, 0)
                self.assert_refused(NoSurd, thing, Surd, 1, thing)
            if not (is_whole_number(thing) and thing != 0):
                self.assert_refused(NoSurd, thing, Surd, 1, 2, thing)


class Compared(Asking):
    def test_small_ones_against_their_figures(self):
        numbers = [(Surd(*told), near(told)) for told in SMALL]
        least = Fraction(1, 10 ** 30)
        for at, (one, number) in enumerate(numbers):
            for other, other_number in numbers[at % 7::7]:
                left = number - other_number
                right = 0 if abs(left) < least else signed(left)
                self.assertEqual(one.compare(other), WORDS[right], (one, other))
                self.assertIs(one == other, right == 0)
                self.assertIs(one != other, right != 0)

    def test_one_number_told_in_several_ways(self):
        for told in SMALL + LARGE:
            p, d, q = told
            for times in (2, 3, -1, -5, 10 ** 20):
                other = Surd(p * times, d * times * times, q * times)
                if times < 0:
                    # The root from 0 on is meant, so this is the conjugate.
                    other = other.other_root()
                self.assertTrue(Surd(*told) == other)
                self.assertEqual(Surd(*told).compare(other), "same")
                self.assertEqual(other.compare(Surd(*told)), "same")
        self.assertTrue(Surd(0, 4) == Surd(2, 0) == Surd(1, 1) == Surd(4, 0, 2) == Surd(3, 1, 2))
        self.assertTrue(Surd(0, 8, 2) == Surd(0, 2))
        self.assertFalse(Surd(0, 2) == Surd(0, 3))
        self.assertTrue(Surd(0, 2) != Surd(0, 2, -1))

    def test_large_ones(self):
        for one, other in product(LARGE, LARGE):
            right = signed(near(one) - near(other)) if one != other else 0
            self.assertEqual(Surd(*one).compare(Surd(*other)), WORDS[right])
        d = 10 ** 60 + 12345
        self.assertEqual(Surd(0, d).compare(Surd(0, d + 1)), "less")
        self.assertEqual(Surd(0, d).compare(Surd(isqrt(d), 0)), "more")
        self.assertEqual(Surd(1, d).compare(Surd(isqrt(d) + 2, 0)), "less")
        self.assertEqual(Surd(-10 ** 30, 10 ** 60 + 1).compare(Surd(0, 0)), "more")
        self.assertEqual(Surd(-10 ** 30, 10 ** 60 - 1).compare(Surd(0, 0)), "less")
        # The nearest fractions of such a bottom, on either side.
        self.assertEqual(Surd(0, 2).compare(Surd(141421356237309504880168872420, 0, 10 ** 29)), "more")
        self.assertEqual(Surd(0, 2).compare(Surd(141421356237309504880168872421, 0, 10 ** 29)), "less")

    def test_equal_to_no_other_thing(self):
        for number in (Surd(3, 0), Surd(1, 5, 2), Surd(0, 0)):
            for thing in any_things():
                if not isinstance(thing, Surd):
                    self.assertIs(number == thing, False)
                    self.assertIs(thing == number, False)
                    self.assertIs(number != thing, True)
        self.assertIs(Surd(3, 0) == 3, False)
        self.assertIs(Surd(3, 0) == (3, 1), False)

    def test_refused(self):
        for thing in all_but(lambda part: isinstance(part, Surd)):
            self.assert_refused(NoSurd, thing, Surd(1, 5, 2).compare, thing)


class Told(Asking):
    def test_fractions(self):
        for told in SMALL + LARGE:
            p, d, q = told
            right = None
            if is_square(d):
                number = Fraction(p + isqrt(d), q)
                right = (number.numerator, number.denominator)
            self.assertEqual(Surd(*told).fraction(), right)
        self.assertEqual(Surd(1, 10 ** 60, 10 ** 29).fraction(), (10 ** 30 + 1, 10 ** 29))
        self.assertIsNone(Surd(1, 10 ** 60 + 1, 10 ** 29).fraction())
        self.assertEqual(Surd(-3, 9, 7).fraction(), (0, 1))

    def test_conjugates(self):
        for told in SMALL + LARGE:
            p, d, q = told
            found = Surd(*told).other_root()
            self.assertIsInstance(found, Surd)
            # It and the number have the sum 2 p / q, and it is the lesser one where q is above nought.
            self.assertAlmostEqual(near(found.told()) + near(told), Fraction(2 * p, q), 30)
            self.assertTrue(found.other_root() == Surd(*told))
            words = ("same",) if d == 0 else ("less",) if q > 0 else ("more",)
            self.assertIn(found.compare(Surd(*told)), words)

    def test_equations(self):
        for told in SMALL + LARGE:
            p, d, q = told
            a, b, c = Surd(*told).equation()
            self.assertEqual(gcd(a, b, c), 1)
            if is_square(d):
                self.assertTrue(a == 0 and b > 0)
                self.assertEqual(b * Fraction(p + isqrt(d), q) + c, 0)
                continue
            self.assertGreater(a, 0)
            # Of (p + root d) / q both what has no root and what has one are nought.
            self.assertEqual(a * (p * p + d) + b * q * p + c * q * q, 0)
            self.assertEqual(2 * a * p + b * q, 0)
        self.assertEqual(Surd(1, 5, 2).equation(), (1, -1, -1))
        self.assertEqual(Surd(1, 5, -2).equation(), (1, 1, -1))
        self.assertEqual(Surd(0, 8, 2).equation(), (1, 0, -2))
        self.assertEqual(Surd(0, 4, 6).equation(), (0, 3, -1))
        self.assertEqual(Surd(0, 0, -6).equation(), (0, 1, 0))


class Terms(Asking):
    def test_floors(self):
        for told in SMALL + LARGE:
            self.assertEqual(Surd(*told).floor(), floor_by_products(told))

    def test_rests(self):
        for told in SMALL + LARGE:
            number = Surd(*told)
            term, rest = number.floor(), number.rest()
            if number.fraction() == (term, 1):
                self.assertIsNone(rest)
                continue
            self.assertIsInstance(rest, Surd)
            self.assertEqual(rest.compare(Surd(1, 0)), "more")
            left = near(told) - term
            self.assertLess(abs(near(rest.told()) * left - 1), Fraction(1, 10 ** 8))
            if number.fraction():
                self.assertEqual(value(rest.fraction()), 1 / (value(number.fraction()) - term))

    def test_terms_against_whole_products(self):
        for told in SMALL + LARGE:
            number = Surd(*told)
            terms = number.terms()
            if number.fraction():
                self.assertEqual(terms, row_by_rule(value(number.fraction()), "floor")[:20])
                continue
            self.assertEqual(len(terms), 20)
            self.assertTrue(is_begun(terms, told), (told, terms))

    def test_terms_are_the_floors_of_the_rests(self):
        for told in SMALL[::5] + LARGE:
            number, right = Surd(*told), []
            while number is not None and len(right) < 12:
                right.append(number.floor())
                number = number.rest()
            self.assertEqual(Surd(*told).terms(12), right)

    def test_most_of_1_and_of_400(self):
        number = Surd(0, 19)
        self.assertEqual(number.terms(1), [4])
        self.assertEqual(number.terms(400), [4] + ([2, 1, 3, 1, 2, 8] * 67)[:399])
        self.assertEqual(number.terms(many=3), [4, 2, 1])
        self.assertEqual(Surd(22, 0, 7).terms(1), [3])
        self.assertEqual(Surd(22, 0, 7).terms(400), [3, 7])
        self.assertEqual(number.terms(), number.terms(20))
        self.assertTrue(is_begun(Surd(*LARGE[0]).terms(400), LARGE[0]))
        self.assert_new_each_time(number.terms, 5)
        for thing in all_but(from_to(1, 400)):
            self.assert_refused(NoNumber, thing, number.terms, thing)
            self.assert_refused(NoNumber, thing, Surd(3, 0).terms, thing)


class Rounds(Asking):
    def test_the_least_round_against_all_shorter_ones(self):
        for told in SMALL:
            number = Surd(*told)
            if number.fraction():
                continue
            word, ahead, again = number.comes_round()
            self.assertEqual(word, "round")
            row = number.terms(3 * (len(ahead) + len(again)) + 30)
            self.assertEqual(row[:len(ahead) + 2 * len(again)], ahead + again + again)
            for first in range(len(ahead) + 1):
                for many in range(1, len(again) + 1):
                    right = first == len(ahead) and many == len(again)
                    self.assertIs(rounds_of(row, first, many), right, (told, first, many))

    def test_known(self):
        self.assertEqual(Surd(0, 2).comes_round(), ("round", [1], [2]))
        self.assertEqual(Surd(1, 5, 2).comes_round(), ("round", [], [1]))
        self.assertEqual(Surd(0, 19).comes_round(), ("round", [4], [2, 1, 3, 1, 2, 8]))
        self.assertEqual(Surd(1, 5, -2).comes_round(), ("round", [-2, 2], [1]))
        self.assertEqual(Surd(0, 2, 3).comes_round(), Surd(0, 8, 6).comes_round())

    def test_rows_that_end(self):
        for fraction in ((22, 7), (-22, 7), (355, 113), (3, 1), (0, 1), (BIG, 10 ** 29)):
            row = row_of(fraction)
            number = Surd(fraction[0], 0, fraction[1])
            self.assertEqual(number.comes_round(), ("end", row))
            self.assertEqual(number.comes_round(len(row)), ("end", row))
            self.assertEqual(number.comes_round(len(row) + 1), ("end", row))
            if len(row) > 1:
                self.assertEqual(number.comes_round(len(row) - 1), ("open", row[:-1]))
        self.assertEqual(Surd(1, 4, -6).comes_round(), ("end", [-1, 2]))

    def test_just_most_terms(self):
        for told in ((0, 19), (1, 5, 2), (0, 2), (7, 61, 3), (0, 94), (-5, 31, 7)):
            number = Surd(*told)
            _, ahead, again = number.comes_round()
            many = len(ahead) + len(again)
            self.assertEqual(number.comes_round(many), ("round", ahead, again))
            self.assertEqual(number.comes_round(many + 1), ("round", ahead, again))
            if many > 1:
                self.assertEqual(number.comes_round(many - 1), ("open", number.terms(many - 1)))
                self.assertEqual(number.comes_round(most=1), ("open", number.terms(1)))

    def test_of_1_and_of_400(self):
        self.assertEqual(Surd(1, 5, 2).comes_round(1), ("round", [], [1]))
        number = Surd(*LARGE[4])
        self.assertEqual(number.comes_round(400), ("open", number.terms(400)))
        self.assertEqual(number.comes_round(), ("open", number.terms(200)))
        # The root of this one comes round by more than 200 terms, and fewer than 400.
        long = next(Surd(0, d) for d in range(20000, 40000)
                    if Surd(0, d).comes_round()[0] == "open" and Surd(0, d).comes_round(400)[0] == "round")
        _, ahead, again = long.comes_round(400)
        self.assertEqual((ahead, again[-1]), ([long.floor()], 2 * long.floor()))
        self.assertEqual(again[:-1], again[-2::-1])
        for thing in all_but(from_to(1, 400)):
            self.assert_refused(NoNumber, thing, number.comes_round, thing)
            self.assert_refused(NoNumber, thing, Surd(3, 0).comes_round, thing)

    def test_told_anew(self):
        for number, most in ((Surd(0, 19), 200), (Surd(0, 19), 3), (Surd(22, 0, 7), 200), (Surd(1, 5, 2), 9)):
            for at in range(1, len(number.comes_round(most))):
                first = number.comes_round(most)
                first[at].append(9)
                self.assertNotEqual(number.comes_round(most), first)
                self.assertIs(type(first), tuple)


class Reduced(Asking):
    def test_against_figures_and_rows(self):
        for told in SMALL + LARGE:
            number = Surd(*told)
            if number.fraction():
                self.assertIs(number.reduced(), False)
                continue
            right = near(told) > 1 and -1 < near(number.other_root().told()) < 0
            self.assertIs(number.reduced(), right)
            word, ahead, *again = number.comes_round(400)
            if word == "round":
                self.assertIs(number.reduced(), ahead == [])
            if right and word == "round":
                p, d, q = number.other_root().told()
                # -1 / ((p + root d) / q) is q (p - root d) / (d - p p).
                turned = Surd(p * q, d * q * q, d - p * p) if q < 0 else Surd(-p * q, d * q * q, p * p - d)
                self.assertEqual(turned.comes_round(400), ("round", [], again[0][::-1]))

    def test_edges(self):
        self.assertIs(Surd(1, 5, 2).reduced(), True)
        self.assertIs(Surd(1, 2).reduced(), True)
        self.assertIs(Surd(4, 19, 1).reduced(), True)
        # The conjugate above 0, and below -1; the number below 1; fractions.
        for told in ((3, 2), (0, 2), (0, 2, 2), (-1, 2), (1, 5, -2), (3, 0, 2), (1, 4, 2), (5, 19), (3, 19), (2, 1)):
            self.assertIs(Surd(*told).reduced(), False)
