from itertools import product
from math import gcd

from termstream.errors import NoRound, NoRow, NoSurd, NoTerm
from termstream.rounds import equation_of, least_row, shows_row, surd_of
from termstream.surds import Surd
from tests.search import lists_of
from tests.test_surds import LARGE, is_begun, near
from tests.things import Asking, all_but, any_things, is_numbers

AHEADS = [[], [0], [3], [-2], [1], [2], [0, 1], [2, 1], [-3, 2], [1, 2], [5, 1, 2], [0, 2, 1, 2]]
ROUNDS = [part for part in lists_of((1, 2, 3), 4) if part]
TWENTY = [1, 2, 3, 4, 5, 6, 7, 8, 9, 10, 11, 12, 13, 14, 15, 16, 17, 18, 19, 20]
HUNDRED = [-123456789012] + [123456789012 + 7 * k for k in range(99)]
LONG = ((HUNDRED, TWENTY), ([], [123456789012] * 20), (HUNDRED[:50], [999999999999, 1]), ([7] * 100, [7] * 20),
        ([0], [1] * 19 + [2]), ([-5] + TWENTY * 4, TWENTY))


def row_of(ahead, again, many):
    """The first many terms, or more, of the row that comes round so."""
    return list(ahead) + list(again) * (many // len(again) + 1)


def searched(ahead, again):
    """The fewest terms ahead and the shortest round of all that tell the same row."""
    row = row_of(ahead, again, 3 * (len(ahead) + len(again)))
    for first in range(len(ahead) + 1):
        for many in range(1, len(again) + 1):
            if all(row[at] == row[at + many] for at in range(first, len(row) - many)):
                return row[:first], row[first:first + many]


def is_good_list(thing, low, high):
    return isinstance(thing, (list, tuple)) and low <= len(thing) <= high


def first_wrong(things, from_place):
    """The first thing that is no whole number, or, from a place on, is below 1; as a list."""
    for at, thing in enumerate(things):
        if type(thing) is not int or (at >= from_place and thing < 1):
            return [thing]
    return []


class Equations(Asking):
    def test_of_small_rows(self):
        for ahead, again in product(AHEADS, ROUNDS):
            self.assert_told(ahead, again)

    def test_of_long_rows(self):
        for ahead, again in LONG:
            self.assert_told(ahead, again)

    def assert_told(self, ahead, again):
        """The equation, and the Surd in its form, of just the number whose row goes so."""
        a, b, c = equation_of(ahead, again)
        self.assertEqual(gcd(a, b, c), 1)
        self.assertGreater(a, 0)
        number = surd_of(ahead, again)
        self.assertIsInstance(number, Surd)
        self.assertEqual(number.equation(), (a, b, c))
        p, d, q = number.told()
        square = b * b - 4 * a * c
        if b % 2:
            self.assertIn((p, d, q), ((-b, square, 2 * a), (b, square, -2 * a)))
        else:
            self.assertIn((p, d, q), ((-b // 2, square // 4, a), (b // 2, square // 4, -a)))
        self.assertTrue(is_begun(row_of(ahead, again, 60), (p, d, q)), (ahead, again))
        self.assertEqual(number.comes_round(400), ("round", *least_row(ahead, again)))

    def test_known(self):
        self.assertEqual(equation_of([], [1]), (1, -1, -1))
        self.assertEqual(surd_of([], [1]).told(), (1, 5, 2))
        self.assertEqual(equation_of([1], [2]), (1, 0, -2))
        self.assertEqual(surd_of([1], [2]).told(), (0, 2, 1))
        # The lesser root: of B even, and of B odd.
        self.assertEqual(surd_of([-2, 3], [1, 2]).told(), (0, 3, -1))
        self.assertEqual(equation_of([-2, 2], [1]), (1, 1, -1))
        self.assertEqual(surd_of([-2, 2], [1]).told(), (1, 5, -2))
        self.assertEqual(surd_of((4,), (2, 1, 3, 1, 2, 8)).told(), (0, 19, 1))

    def test_of_each_surd_again(self):
        for told in product(range(-3, 4), range(9), (-3, -2, -1, 1, 2, 3)):
            number = Surd(*told)
            if number.fraction() is None:
                _, ahead, again = number.comes_round()
                self.assertTrue(surd_of(ahead, again) == number)
                self.assertEqual(equation_of(ahead, again), number.equation())

    def test_lists_and_tuples(self):
        for call in (equation_of, least_row, lambda *handed: surd_of(*handed).told()):
            self.assertEqual(call((5, 1), (2, 3)), call([5, 1], [2, 3]))


class LeastRows(Asking):
    def test_against_a_search(self):
        for ahead, again in product(AHEADS, ROUNDS):
            found = least_row(ahead, again)
            self.assertEqual(found, searched(ahead, again))
            self.assertEqual([type(part) for part in (found, *found)], [tuple, list, list])

    def test_shorter_ones_again_and_again(self):
        self.assertEqual(least_row([], [1] * 20), ([], [1]))
        self.assertEqual(least_row([3], [1, 2] * 10), ([3], [1, 2]))
        self.assertEqual(least_row([3], [1, 2, 3, 4, 5] * 4), ([3], [1, 2, 3, 4, 5]))
        self.assertEqual(least_row([], [1] * 19 + [2]), ([], [1] * 19 + [2]))
        self.assertEqual(least_row([], [1, 1, 2, 1, 1, 2, 1, 1]), ([], [1, 1, 2, 1, 1, 2, 1, 1]))

    def test_terms_ahead_that_belong_to_the_round(self):
        self.assertEqual(least_row([2], [1, 2]), ([], [2, 1]))
        self.assertEqual(least_row([5, 1, 2], [3, 1, 2]), ([5], [1, 2, 3]))
        self.assertEqual(least_row([7] * 100, [7] * 20), ([], [7]))
        self.assertEqual(least_row([-1, 1, 1], [1, 1]), ([-1], [1]))
        self.assertEqual(least_row([0, 2], [2, 2, 2]), ([0], [2]))
        self.assertEqual(least_row([1, 2, 1], [2, 1]), ([], [1, 2]))

    def test_nothing_is_changed_and_told_anew(self):
        ahead, again = [5, 1, 2], [3, 1, 2]
        for _ in range(2):
            first = least_row(ahead, again)
            self.assertEqual(first, ([5], [1, 2, 3]))
            first[0].append(9)
            first[1].append(9)
        equation_of(ahead, again)
        surd_of(ahead, again)
        self.assertEqual((ahead, again), ([5, 1, 2], [3, 1, 2]))
        ahead, again = [3], [4, 5]
        least_row(ahead, again)[1].append(9)
        least_row(ahead, again)[0].append(9)
        self.assertEqual((ahead, again), ([3], [4, 5]))


class Refused(Asking):
    def test_of_any_thing(self):
        for call in (equation_of, surd_of, least_row):
            for thing in any_things():
                if not is_good_list(thing, 0, 100):
                    self.assert_refused(NoRow, thing, call, thing, [1])
                    self.assert_refused(NoRow, thing, call, thing, None)
                else:
                    for part in first_wrong(thing, 1):
                        self.assert_refused(NoTerm, part, call, thing, [1])
                        self.assert_refused(NoTerm, part, call, thing, None)
                if not is_good_list(thing, 1, 20):
                    self.assert_refused(NoRound, thing, call, [3, 1], thing)
                else:
                    for part in first_wrong(thing, 0):
                        self.assert_refused(NoTerm, part, call, [3, 1], thing)

    def test_lengths(self):
        for call in (equation_of, surd_of, least_row):
            self.assert_refused(NoRow, (many := [1] * 101), call, many, [1])
            self.assert_refused(NoRow, many, call, many, [])
            call([1] * 100, [1] * 20)
            for again in ([1] * 21, [], ()):
                self.assert_refused(NoRound, again, call, [], again)

    def test_the_first_wrong_term(self):
        for call in (equation_of, surd_of, least_row):
            self.assert_refused(NoTerm, 0, call, [0, 0, None], [1])
            self.assert_refused(NoTerm, -3, call, [-5, 1, -3, 0], [])
            self.assert_refused(NoTerm, None, call, [None, 0], [0])
            self.assert_refused(NoTerm, True, call, [True], [0])
            self.assert_refused(NoTerm, 0, call, [], [0])
            self.assert_refused(NoTerm, -1, call, [-5], [1, 2, -1, 0])
            self.assert_refused(NoTerm, (part := [1]), call, [5, part, 0], [])


class Shown(Asking):
    def test_just_the_least_one(self):
        for told in product(range(-2, 3), range(1, 8), (-2, -1, 1, 3)):
            number = Surd(*told)
            found = number.comes_round()
            for ahead, again in product(lists_of((-2, -1, 0, 1, 2), 2), lists_of((1, 2, 3), 2)):
                self.assertIs(shows_row(number, ahead, again), found == ("round", ahead, again))
            if found[0] == "round":
                self.assertIs(shows_row(number, found[1], found[2]), True)
                self.assertIs(shows_row(number, tuple(found[1]), tuple(found[2])), True)

    def test_forged_ones(self):
        for ahead, again in (([4], [2, 1, 3, 1, 2, 8]), ([], [1]), ([1], [2]), (HUNDRED, TWENTY), ([5, 3], [1, 1, 7])):
            number = surd_of(ahead, again)
            self.assertIs(shows_row(number, ahead, again), True)
            # By one term, by one time round more, by the last term ahead taken into the round.
            for at in range(len(ahead)):
                wrong = ahead[:at] + [ahead[at] + 1] + ahead[at + 1:]
                self.assertIs(shows_row(number, wrong, again), False)
                self.assertIs(shows_row(surd_of(wrong, again), ahead, again), False)
            for at in range(len(again)):
                wrong = again[:at] + [again[at] + 1] + again[at + 1:]
                self.assertIs(shows_row(number, ahead, wrong), False)
            self.assertIs(shows_row(number, ahead, again + again), False)
            self.assertIs(shows_row(number, ahead + again, again), False)
            self.assertIs(shows_row(number, ahead + again[:1], again[1:] + again[:1]), False)
            self.assertIs(shows_row(number, ahead, again[:-1]), False)
            if ahead:
                self.assertIs(shows_row(number, ahead[:-1], [ahead[-1], *again]), False)
                self.assertIs(shows_row(number, ahead[:-1], again), False)
            self.assertIs(shows_row(number.other_root(), ahead, again), False)

    def test_however_long(self):
        number = Surd(0, 10 ** 12 + 39)
        ahead, again = number.terms(1), None
        row = [ahead[0]]
        rest = number.rest()
        start = rest.told()
        while again is None:
            row.append(rest.floor())
            rest = rest.rest()
            if rest == Surd(*start) or len(row) > 5000:
                again = row[1:]
        if len(row) <= 5000:
            self.assertIs(shows_row(number, ahead, again), True)
            self.assertIs(shows_row(number, ahead, again + again), False)
        self.assertIs(shows_row(Surd(*LARGE[4]), [1] * 100, [1] * 100), False)
        self.assertIs(shows_row(Surd(1, 5, 2), [], [1] * 500), False)

    def test_of_any_things(self):
        for number, again in ((Surd(1, 5, 2), [1]), (Surd(1, 2), [2]), (Surd(3, 0), None), (Surd(22, 0, 7), None)):
            for thing in any_things():
                right = is_numbers(thing) and list(thing) == again
                self.assertIs(shows_row(number, [], thing), right)
                self.assertIs(shows_row(number, thing, []), False)
                self.assertIs(shows_row(number, thing, thing), False)
                self.assertIs(shows_row(number, thing, [2, 9]), False)
        self.assertIs(shows_row(Surd(0, 2), [1], [2]), True)
        self.assertIs(shows_row(Surd(0, 2), [True], [2]), False)
        self.assertIs(shows_row(Surd(1, 5, 2), [], [True]), False)
        self.assertIs(shows_row(Surd(1, 5, 2), (), (1,)), True)
        self.assertIs(shows_row(Surd(1, 5, 2), {}, [1]), False)
        for row in ([3], [3, 7]):
            self.assertIs(shows_row(Surd(22, 0, 7), row, []), False)
            self.assertIs(shows_row(Surd(22, 0, 7), [3], row), False)

    def test_refused(self):
        for thing in all_but(lambda part: isinstance(part, Surd)):
            self.assert_refused(NoSurd, thing, shows_row, thing, [1], [2])
            self.assert_refused(NoSurd, thing, shows_row, thing, None, None)

    def test_the_equation_of_the_number(self):
        # It is what its row is worth, to forty figures.
        for ahead, again in LONG[3:]:
            a, b, c = equation_of(ahead, again)
            number = near(surd_of(ahead, again).told())
            self.assertLess(abs(a * number * number + b * number + c), 10 ** -6 * max(a, abs(b), abs(c)))
