import operator
from fractions import Fraction
from math import ceil, floor

from termstream.errors import NoFraction, NoManner, NoNumber, Nought
from termstream.fractions import (
    fraction_text, is_fraction, lowest, minus, over, plus, read_fraction, sign_of, times, whole_of,
)
from tests.search import fractions_to, told, value
from tests.things import Asking, all_but, any_things, is_lowest, is_whole_number

THIRTY = 123456789012345678901234567891
OTHER_THIRTY = 987654321098765432109876543211
LARGE = [told(Fraction(top, bottom)) for top in (THIRTY, -THIRTY, OTHER_THIRTY)
         for bottom in (1, 7, OTHER_THIRTY, THIRTY + 1)]
SMALL = fractions_to(5)


class Kinds(Asking):
    def test_of_any_thing(self):
        for thing in any_things():
            self.assertIs(is_fraction(thing), is_lowest(thing))

    def test_fractions(self):
        for fraction in SMALL + LARGE:
            self.assertIs(is_fraction(fraction), True)

    def test_no_fractions(self):
        for thing in ((0, 2), (0, 0), (0, -1), (1, 0), (4, 2), (-4, 2), (3, -7), (2, 2), (1, -1), (True, 1),
                      (1, True), [1, 2], (1,), (1, 2, 3), (1, None), ("1", "2"), ((1, 2), 3),
                      (2 * THIRTY, 2)):
            self.assertIs(is_fraction(thing), False)


class Texts(Asking):
    def test_texts(self):
        for fraction, text in (((-22, 7), "-22/7"), ((3, 1), "3"), ((0, 1), "0"), ((-1, 1), "-1"),
                               ((1, 2), "1/2"), ((1, THIRTY), f"1/{THIRTY}"),
                               ((-THIRTY, 1), f"-{THIRTY}")):
            self.assertEqual(fraction_text(fraction), text)
            self.assertEqual(read_fraction(text), fraction)

    def test_what_is_written_is_read(self):
        for fraction in SMALL + LARGE:
            found = read_fraction(fraction_text(fraction))
            self.assertEqual(found, fraction)
            self.assertIs(is_fraction(found), True)

    def test_a_number_of_four_thousand_figures_is_written(self):
        self.assertEqual(fraction_text((10 ** 3999, 3)), "1" + "0" * 3999 + "/3")

    def test_other_texts_are_refused(self):
        for text in ("", "/", "4/2", "4/1", "0/1", "0/2", "1/0", "3/-7", "-3/-7", "+1/2", "1/+2", "1/02",
                     "01/2", " 1/2", "1 /2", "1/ 2", "1/2 ", "1/2\n", "1/", "/2", "1/2/3", "1//2", "-0",
                     "-0/1", "-/2", "a", "1.5", "3;7", "1/2,", "1" * 31, "1/" + "1" * 31,
                     "1" * 31 + "/2", "/" * 3000):
            with self.subTest(text=text[:40]):
                self.assert_refused(NoFraction, text, read_fraction, text)

    def test_texts_of_thirty_figures(self):
        self.assertEqual(read_fraction(f"-{THIRTY}/{THIRTY + 1}"), (-THIRTY, THIRTY + 1))

    def test_refused_of_any_thing(self):
        self.assert_all_refused(NoFraction, is_lowest, fraction_text)
        right = ("0", "-7", "22/7")
        self.assert_all_refused(NoFraction, lambda thing: isinstance(thing, str) and thing in right, read_fraction)


class Lowest(Asking):
    def test_all_signs(self):
        for top in range(-12, 13):
            for bottom in range(-12, 13):
                if bottom != 0:
                    self.assertEqual(lowest(top, bottom), told(Fraction(top, bottom)))

    def test_edges(self):
        self.assertEqual(lowest(0, -5), (0, 1))
        self.assertEqual(lowest(4, -2), (-2, 1))
        self.assertEqual(lowest(-4, -6), (2, 3))
        self.assertEqual(lowest(7), (7, 1))
        self.assertEqual(lowest(6, bottom=4), (3, 2))
        self.assertEqual(lowest(6 * THIRTY, -4 * THIRTY), (-3, 2))
        for fraction in (lowest(0, -5), lowest(4, -2)):
            self.assertIs(is_fraction(fraction), True)

    def test_refused(self):
        self.assert_all_refused(NoNumber, is_whole_number, lowest)
        for thing in all_but(is_whole_number):
            self.assert_refused(NoNumber, thing, lowest, 1, thing)
            self.assert_refused(NoNumber, thing, lowest, thing, 0)
            self.assert_refused(NoNumber, thing, lowest, thing, [None])
        for top in (0, 5, -THIRTY):
            self.assert_refused(Nought, top, lowest, top, 0)


class Reckoning(Asking):
    def test_against_pythons_fractions(self):
        pairs = ((plus, operator.add), (minus, operator.sub), (times, operator.mul), (over, operator.truediv))
        for one in SMALL + LARGE:
            for other in SMALL[::3] + LARGE:
                for own, plain in pairs:
                    if own is over and other[0] == 0:
                        self.assert_refused(Nought, one, over, one, other)
                        continue
                    found = own(one, other)
                    self.assertEqual(found, told(plain(value(one), value(other))))
                    self.assertIs(type(found), tuple)
                left, right = value(one), value(other)
                self.assertEqual(sign_of(one, other), (left > right) - (left < right))

    def test_refused(self):
        good = (1, 2)
        for call in (plus, minus, times, over, sign_of):
            for thing in all_but(is_lowest):
                self.assert_refused(NoFraction, thing, call, thing, good)
                self.assert_refused(NoFraction, thing, call, good, thing)
                self.assert_refused(NoFraction, thing, call, thing, [4, 2])
                self.assert_refused(NoFraction, thing, call, thing, (0, 1))

    def test_divided_by_nought(self):
        self.assert_refused(Nought, (22, 7), over, (22, 7), (0, 1))
        self.assert_refused(Nought, (0, 1), over, (0, 1), (0, 1))
        self.assert_refused(NoFraction, (0, 2), over, (22, 7), (0, 2))


class Wholes(Asking):
    def test_by_the_three_words(self):
        for fraction in fractions_to(8, 3) + LARGE:
            number = value(fraction)
            self.assertEqual(whole_of(fraction), floor(number))
            self.assertEqual(whole_of(fraction, "floor"), floor(number))
            self.assertEqual(whole_of(fraction, "ceil"), ceil(number))
            self.assertEqual(whole_of(fraction, "near"), floor(number + Fraction(1, 2)))

    def test_halves_and_wholes(self):
        self.assertEqual([whole_of((top, 2), "near") for top in (-3, -1, 1, 3)], [-1, 0, 1, 2])
        self.assertEqual([whole_of((top, 2), "floor") for top in (-3, -1, 1, 3)], [-2, -1, 0, 1])
        self.assertEqual([whole_of((top, 2), how="ceil") for top in (-3, -1, 1, 3)], [-1, 0, 1, 2])
        for how in ("floor", "ceil", "near"):
            for number in (0, -1, 7, THIRTY, -THIRTY):
                self.assertEqual(whole_of((number, 1), how), number)

    def test_refused(self):
        self.assert_all_refused(NoFraction, is_lowest, whole_of)
        for thing in all_but(lambda thing: isinstance(thing, str) and thing in ("floor", "ceil", "near")):
            self.assert_refused(NoManner, thing, whole_of, (22, 7), thing)
        for thing in all_but(is_lowest):
            self.assert_refused(NoFraction, thing, whole_of, thing, "up")
            self.assert_refused(NoFraction, thing, whole_of, thing, None)
