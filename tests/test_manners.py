from fractions import Fraction

from termstream.errors import NoFraction, NoManner, NoRow, NoTerm, TooMany
from termstream.manners import (
    given_rows, is_row, may_end, may_follow, number_of, row_of, taken_rows,
)
from tests.search import (
    MANNERS, fractions_to, is_beginning_by_rule, is_row_by_rule, lists_of, row_by_rule, told, value,
    value_by_rule,
)
from tests.things import (
    Asking, all_but, any_things, is_lowest, is_manner_word, is_numbers, is_whole_number,
)

TERMS = (-3, -2, -1, 0, 1, 2, 3)
LISTS = lists_of(TERMS, 4)
LARGE = [(314159265358979323846264338327, 10 ** 29), (-314159265358979323846264338327, 10 ** 29),
         (123456789012345678901234567891, 987654321098765432109876543211), (1, 10 ** 29 + 7)]


def is_legal(thing, manner):
    return is_numbers(thing) and is_row_by_rule(thing, manner)


def begins(thing, manner):
    return is_numbers(thing) and is_beginning_by_rule(thing, manner)


class Rows(Asking):
    def test_legal_against_the_rule(self):
        for manner in MANNERS:
            for terms in LISTS:
                right = is_row_by_rule(terms, manner)
                self.assertIs(is_row(terms, manner), right, (terms, manner))
                self.assertIs(is_row(tuple(terms), manner), right)
                if right:
                    number = told(value_by_rule(terms, manner))
                    self.assertEqual(number_of(terms, manner), number)
                    self.assertEqual(number_of(tuple(terms), manner), number)
                    self.assertEqual(row_of(number, manner), terms)
                else:
                    self.assert_refused(NoRow, terms, number_of, terms, manner)

    def test_fractions_against_the_rule(self):
        for manner in MANNERS:
            for fraction in fractions_to(14) + LARGE:
                if manner == "ceil" and fraction in LARGE:
                    continue
                row = row_of(fraction, manner)
                self.assertEqual(row, row_by_rule(value(fraction), manner))
                self.assertIs(type(row), list)
                self.assertIs(is_row(row, manner), True)
                self.assertEqual(number_of(row, manner), fraction)

    def test_edges_of_near(self):
        for row in ([2], [-2], [2, -2], [2, -3], [-2, 3], [-2, -2], [0, 2, 2, 3], [0, 2, 3], [0, -2], [0, -2, -2],
                    [0, -2, -3], [0, 3, 2, 3], [0, 3, -2], [0, -3, 2, 5], [1, 3], [0, 3, -3]):
            self.assertIs(is_row(row, "near"), True, row)
        for row in ([], [2, 2], [0, 2], [0, 2, -3], [0, 2, -2], [0, 2, 2], [0, -2, 3], [0, -2, 2, 3], [0, 1],
                    [0, -1], [0, 0], [0, 3, 1], [0, 3, 2], [0, 3, 2, -3], [0, 3, -2, 3], [0, -2, -2, 3]):
            self.assertIs(is_row(row, "near"), False, row)

    def test_edges_of_floor_and_ceil(self):
        for row in ([1], [-1], [0, 2], [5, 1, 2], [5, 1, 1, 3]):
            self.assertIs(is_row(row, "floor"), True)
            self.assertIs(is_row(row), True)
        for row in ([], [5, 1], [5, 0, 2], [5, -1, 2], [5, 2, 1]):
            self.assertIs(is_row(row, "floor"), False)
            self.assertIs(is_row(row), False)
        for row in ([1], [0], [-5, 2], [5, 2, 2, 2], [5, 3, 2]):
            self.assertIs(is_row(row, "ceil"), True)
        for row in ([], [5, 1], [5, 2, 1], [5, 1, 2], [5, 0], [5, -2], [5, 2, -3]):
            self.assertIs(is_row(row, "ceil"), False)

    def test_known_rows(self):
        self.assertEqual(row_of((22, 7)), [3, 7])
        self.assertEqual(row_of((22, 7), "ceil"), [4, 2, 2, 2, 2, 2, 2])
        self.assertEqual(row_of((20, 7), "near"), [3, -7])
        self.assertEqual(row_of((1, 2), "near"), [1, -2])
        self.assertEqual(row_of((-1, 2), "near"), [0, -2])
        self.assertEqual(row_of((2, 5), "near"), [0, 3, -2])
        self.assertEqual(row_of((3, 7), "near"), [0, 2, 3])

    def test_a_thousand_terms_and_one_more(self):
        row = row_of((1, 1000), "ceil")
        self.assertEqual(row, [1] + [2] * 999)
        self.assertEqual(number_of(row, "ceil"), (1, 1000))
        for fraction in ((1, 1001), (1, 1002), (1, 10 ** 29), LARGE[3], (1 - 10 ** 29, 10 ** 29)):
            self.assert_refused(TooMany, 1001, row_of, fraction, "ceil")
        self.assertEqual(number_of([1] + [2] * 1000, "ceil"), (1, 1001))
        self.assertEqual(row_of((1, 10 ** 29), "floor"), [0, 10 ** 29])
        long_row = [1] * 999 + [2]
        self.assertEqual(row_of(number_of(long_row)), long_row)
        self.assert_refused(TooMany, 1001, row_of, number_of([1] * 1000 + [2]), "floor")
        self.assert_refused(TooMany, 1001, row_of, number_of([3] * 1001, "near"), "near")
        self.assertEqual(row_of(number_of([3] * 1000, "near"), "near"), [3] * 1000)

    def test_rows_of_a_hundred_terms(self):
        for manner, sign in (("floor", 1), ("ceil", 1), ("near", 1), ("near", -1)):
            row = [sign * (123456789012 + 7919 * k) for k in range(100)]
            fraction = number_of(row, manner)
            self.assertEqual(fraction, told(value_by_rule(row, manner)))
            self.assertEqual(row_of(fraction, manner), row)

    def test_floor_where_the_manner_is_left_out(self):
        self.assertEqual(row_of((-22, 7)), [-4, 1, 6])
        self.assertEqual(number_of([-4, 1, 6]), (-22, 7))
        self.assertEqual(row_of((-22, 7), manner="near"), [-3, -7])
        self.assertEqual(number_of([-3, -7], manner="near"), (-22, 7))
        self.assertIs(is_row([-3, -7], manner="near"), True)

    def test_of_any_thing(self):
        for manner in MANNERS:
            for thing in any_things():
                self.assertIs(is_row(thing, manner), is_legal(thing, manner))
                if not is_legal(thing, manner):
                    self.assert_refused(NoRow, thing, number_of, thing, manner)
                if not is_lowest(thing):
                    self.assert_refused(NoFraction, thing, row_of, thing, manner)

    def test_told_anew_and_nothing_changed(self):
        for manner in MANNERS:
            self.assert_new_each_time(row_of, (22, 7), manner)
            row = [3, 7]
            number_of(row, manner)
            is_row(row, manner)
            self.assertEqual(row, [3, 7])


class Beginnings(Asking):
    def test_against_the_rule(self):
        for manner in MANNERS:
            for terms in lists_of(TERMS, 3):
                if not is_beginning_by_rule(terms, manner):
                    self.assert_refused(NoRow, terms, may_follow, terms, 5, manner)
                    self.assert_refused(NoRow, terms, may_end, terms, manner)
                    continue
                self.assertIs(may_end(terms, manner), is_row_by_rule(terms, manner))
                self.assertIs(may_end(tuple(terms), manner), is_row_by_rule(terms, manner))
                for term in TERMS:
                    right = is_beginning_by_rule([*terms, term], manner)
                    self.assertIs(may_follow(terms, term, manner), right, (terms, term, manner))
                    self.assertIs(may_follow(tuple(terms), term, manner), right)

    def test_the_beginning_without_terms(self):
        for manner in MANNERS:
            self.assertIs(may_end([], manner), False)
            self.assertIs(may_end((), manner), False)
            for term in (0, 1, -1, 10 ** 29, -10 ** 29):
                self.assertIs(may_follow([], term, manner), True)
            self.assertIs(may_follow((), True, manner), False)

    def test_last_terms_of_one_and_two(self):
        self.assertIs(may_end([3, 1]), False)
        self.assertIs(may_end([1]), True)
        self.assertIs(may_follow([3, 1], 1), True)
        self.assertIs(may_follow([3, 1], 0), False)
        self.assertIs(may_end([3, 2], "near"), False)
        self.assertIs(may_end([2], "near"), True)
        self.assertIs(may_end([3, -2], "near"), True)
        self.assertIs(may_follow([2], -3, "near"), True)
        self.assertIs(may_follow([0, 2], -3, "near"), False)
        self.assertIs(may_follow([0, 2], 2, "near"), True)
        self.assertIs(may_follow([-2], 3, "near"), True)
        self.assertIs(may_follow([0, -2], 3, "near"), False)
        self.assertIs(may_follow([0, -2], -2, manner="near"), True)
        self.assertIs(may_end([0, 2], manner="ceil"), True)

    def test_any_thing_behind(self):
        for manner in MANNERS:
            for thing in any_things():
                right = is_whole_number(thing) and is_beginning_by_rule([3, 7, thing], manner)
                self.assertIs(may_follow([3, 7], thing, manner), right)

    def test_any_thing_as_a_beginning(self):
        for manner in MANNERS:
            for thing in all_but(lambda terms: begins(terms, manner)):
                self.assert_refused(NoRow, thing, may_follow, thing, None, manner)
                self.assert_refused(NoRow, thing, may_end, thing, manner)

    def test_nothing_is_changed(self):
        terms = [3, 7]
        may_follow(terms, 15)
        may_end(terms)
        self.assertEqual(terms, [3, 7])


class Machines(Asking):
    def test_the_rows(self):
        for t in (0, 1, -1, 7, 123456789012, -10 ** 29):
            for manner in ("floor", "near"):
                self.assertEqual(taken_rows(t, manner), ((t, 1), (1, 0)))
                self.assertEqual(given_rows(t, manner), ((0, 1), (1, -t)))
            self.assertEqual(taken_rows(t, "ceil"), ((t, -1), (1, 0)))
            self.assertEqual(given_rows(t, "ceil"), ((0, 1), (-1, t)))
            self.assertEqual(taken_rows(t), taken_rows(t, manner="floor"))
            self.assertEqual(given_rows(t), given_rows(t, manner="floor"))

    def test_they_reckon_as_the_manner_does(self):
        for manner in MANNERS:
            for fraction in fractions_to(7):
                row = row_of(fraction, manner)
                if len(row) == 1:
                    continue
                rest = value(number_of(row[1:], manner))
                (a, b), (c, d) = taken_rows(row[0], manner)
                self.assertEqual((a * rest + b) / (c * rest + d), value(fraction))
                (a, b), (c, d) = given_rows(row[0], manner)
                number = value(fraction)
                self.assertEqual((a * number + b) / Fraction(c * number + d), rest)

    def test_refused(self):
        for call in (taken_rows, given_rows):
            self.assert_all_refused(NoTerm, is_whole_number, call)
            for manner in MANNERS:
                for thing in all_but(is_whole_number):
                    self.assert_refused(NoTerm, thing, call, thing, manner)

    def test_kinds(self):
        for found in (taken_rows(3), given_rows(3, "ceil")):
            self.assertEqual([type(part) for part in (found, *found)], [tuple] * 3)


class NoManners(Asking):
    def test_refused_ahead_of_all_else(self):
        for manner in all_but(is_manner_word):
            for good, bad in (([3, 7], [3, 0]), ((22, 7), (4, 2)), (3, None)):
                for thing in (good, bad):
                    for call in (is_row, row_of, number_of, may_end, taken_rows, given_rows):
                        self.assert_refused(NoManner, manner, call, thing, manner)
                    self.assert_refused(NoManner, manner, may_follow, thing, 5, manner)
                    self.assert_refused(NoManner, manner, may_follow, thing, True, manner)
