from termstream.errors import NoFraction, NoRow
from termstream.rows import beginnings, floor_row, fraction_of, is_floor_row, parting, turn_of
from tests.search import fractions_to, is_row_by_rule, lists_of, row_by_rule, told, value, value_by_rule
from tests.things import Asking, all_but, any_things, is_legal_floor, is_lowest, is_numbers

SMALL = fractions_to(9)
TWELVE = [123456789012 + 7919 * k for k in range(100)]
THIRTY = (-123456789012345678901234567891, 987654321098765432109876543211)


def times(one, other):
    """The product of two rows, by the words of the document."""
    (a, b), (c, d) = one
    (e, f), (g, h) = other
    return ((a * e + b * g, a * f + b * h), (c * e + d * g, c * f + d * h))


class Legal(Asking):
    def test_of_any_thing(self):
        for thing in any_things():
            self.assertIs(is_floor_row(thing), is_legal_floor(thing))

    def test_small_lists(self):
        for terms in lists_of(range(-1, 4), 4):
            self.assertIs(is_floor_row(terms), is_row_by_rule(terms, "floor"))
            self.assertIs(is_floor_row(tuple(terms)), is_row_by_rule(terms, "floor"))

    def test_edges(self):
        for row in ([1], [0], [-5], [3, 2], [0, 2], [3, 1, 2], TWELVE):
            self.assertIs(is_floor_row(row), True)
        for row in ([], [3, 1], [3, 7, 1], [3, 0], [3, 0, 2], [3, -1], [True], [3, True], [3, 2, False]):
            self.assertIs(is_floor_row(row), False)


class Rows(Asking):
    def test_against_the_rule(self):
        for fraction in SMALL + [THIRTY]:
            row = floor_row(fraction)
            self.assertEqual(row, row_by_rule(value(fraction), "floor"))
            self.assertIs(type(row), list)
            self.assertEqual(fraction_of(row), fraction)
            self.assertEqual(fraction_of(tuple(row)), fraction)

    def test_known_rows(self):
        self.assertEqual(floor_row((22, 7)), [3, 7])
        self.assertEqual(floor_row((-22, 7)), [-4, 1, 6])
        self.assertEqual(floor_row((1, 2)), [0, 2])
        self.assertEqual(floor_row((1, 1)), [1])
        self.assertEqual(floor_row((0, 1)), [0])

    def test_rows_of_a_hundred_terms(self):
        fraction = fraction_of(TWELVE)
        self.assertEqual(fraction, told(value_by_rule(TWELVE, "floor")))
        self.assertEqual(floor_row(fraction), TWELVE)

    def test_refused(self):
        self.assert_all_refused(NoFraction, is_lowest, floor_row)
        self.assert_all_refused(NoRow, is_legal_floor, fraction_of)

    def test_told_anew(self):
        self.assert_new_each_time(floor_row, (22, 7))
        row = [3, 7, 15]
        fraction_of(row)
        self.assertEqual(row, [3, 7, 15])


class Turns(Asking):
    def test_products(self):
        self.assertEqual(turn_of([]), ((1, 0), (0, 1)))
        self.assertEqual(turn_of(()), ((1, 0), (0, 1)))
        self.assertEqual(turn_of([3]), ((3, 1), (1, 0)))
        self.assertEqual(turn_of([3, 7, 15]), ((333, 22), (106, 7)))
        for terms in lists_of(range(-2, 3), 4) + [TWELVE]:
            rows = ((1, 0), (0, 1))
            for term in terms:
                rows = times(rows, ((term, 1), (1, 0)))
            self.assertEqual(turn_of(terms), rows)
            self.assertEqual(turn_of(tuple(terms)), rows)

    def test_kinds(self):
        found = turn_of([3, 7])
        self.assertEqual([type(part) for part in (found, *found)], [tuple] * 3)

    def test_refused(self):
        self.assert_all_refused(NoRow, is_numbers, turn_of)
        for thing in ([True], [3, False], [3, "7"], "37", {3: 7}, [[3]], None):
            self.assert_refused(NoRow, thing, turn_of, thing)


class Beginnings(Asking):
    def test_known(self):
        self.assertEqual(beginnings([3, 7, 16]), [(3, 1), (22, 7), (355, 113)])
        self.assertEqual(beginnings((3, 1, 2)), [(3, 1), (4, 1), (11, 3)])
        self.assertEqual(beginnings([-4, 1, 6]), [(-4, 1), (-3, 1), (-22, 7)])
        self.assertEqual(beginnings([1]), [(1, 1)])
        self.assertEqual(beginnings([0, 1, 1, 2]), [(0, 1), (1, 1), (1, 2), (3, 5)])

    def test_by_turns_below_and_above_and_nearer(self):
        rows = [floor_row(fraction) for fraction in SMALL + [THIRTY]] + [TWELVE]
        for row in rows:
            found = beginnings(row)
            self.assertEqual(found, [
                (turn_of(row[:many])[0][0], turn_of(row[:many])[1][0]) for many in range(1, len(row) + 1)])
            self.assertEqual(found[-1], fraction_of(row))
            number = value(found[-1])
            gaps = [value(part) - number for part in found]
            for place, gap in enumerate(gaps[:-1]):
                self.assertTrue(gap < 0 if place % 2 == 0 else gap > 0)
                self.assertLessEqual(abs(gaps[place + 1]), abs(gap))

    def test_refused(self):
        self.assert_all_refused(NoRow, is_legal_floor, beginnings)

    def test_told_anew(self):
        self.assert_new_each_time(beginnings, [3, 7, 16])


class Partings(Asking):
    def test_against_the_fractions(self):
        rows = [floor_row(fraction) for fraction in fractions_to(6)]
        for one in rows:
            for other in rows:
                found = parting(one, tuple(other))
                if one == other:
                    self.assertIsNone(found)
                    continue
                place = 0
                while one[place:place + 1] == other[place:place + 1]:
                    place += 1
                sign = 1 if value_by_rule(one, "floor") > value_by_rule(other, "floor") else -1
                self.assertEqual(found, (place, sign))
                self.assertIs(type(found), tuple)

    def test_edges(self):
        self.assertEqual(parting([3], [4]), (0, -1))
        self.assertEqual(parting([3, 7], [3, 8]), (1, 1))
        self.assertEqual(parting([3], [3, 7]), (1, -1))
        self.assertEqual(parting([3, 7], [3]), (1, 1))
        self.assertEqual(parting([3, 7], [3, 7, 16]), (2, 1))
        self.assertEqual(parting([3, 7, 16], [3, 7]), (2, -1))
        self.assertIsNone(parting([3, 7], (3, 7)))

    def test_long_rows(self):
        for place in range(100):
            other = list(TWELVE)
            other[place] += 1
            self.assertEqual(parting(TWELVE, other), (place, -1 if place % 2 == 0 else 1))

    def test_refused(self):
        for thing in all_but(is_legal_floor):
            self.assert_refused(NoRow, thing, parting, thing, [3])
            self.assert_refused(NoRow, thing, parting, [3], thing)
            self.assert_refused(NoRow, thing, parting, thing, [3, 1])

    def test_nothing_is_changed(self):
        one, other = [3, 7], [3, 7, 16]
        parting(one, other)
        self.assertEqual((one, other), ([3, 7], [3, 7, 16]))
