import random
from fractions import Fraction
from math import isqrt

from termstream.errors import NoFraction, NoManner, NoNumber, NoPlace, NoRow, NoStream, TooMany
from termstream.machines import Machine
from termstream.ones import One
from termstream.rooted import Rooted, root_next, root_row, shows_root_parts
from termstream.running import Running
from termstream.settling import neighbours_of
from termstream.sources import Fed, Row, Ruled, Tail
from termstream.streams import Stream
from termstream.surds import Surd
from termstream.twos import Two
from tests.search import MANNERS, first_by_rule_and_rest, fractions_to, is_beginning_by_rule, row_by_rule, told, value
from tests.test_ones import asked_on
from tests.test_streams import endless, fed, same
from tests.things import Asking, all_but, any_things, from_to, is_lowest, is_manner_word, is_numbers, is_stream

LARGE = [(123456789012345678901234567891, 987654321098765432109876543210), (10 ** 29 + 7, 3), (3, 10 ** 29 + 1),
         (10 ** 28, 1), (10 ** 28 + 1, 1), (10 ** 28 - 1, 1), (10 ** 28, 10 ** 14 + 1)]
LARGE = [told(value(part)) for part in LARGE]
SMALL = [part for part in fractions_to(12, 3) if part[0] >= 0]
POOLS = {manner: [(part, row_by_rule(value(part), manner)) for part in fractions_to(12, 4)] for manner in MANNERS}


def exact_root(fraction):
    """The root, where it is a fraction, else None."""
    top, bottom = map(isqrt, fraction)
    return Fraction(top, bottom) if (top * top, bottom * bottom) == fraction else None


def row_by_products(fraction, many):
    """The first many terms of the root's row: each floor is the greatest t that whole products allow."""
    exact = exact_root(fraction)
    if exact is not None:
        return row_by_rule(exact, "floor")[:many]
    # The rest is (a * root + b) / (c * root + d).
    top, bottom = fraction
    rows, found = (1, 0, 0, 1), []
    while len(found) < many:
        a, b, c, d = rows
        term = greatest(lambda t: is_not_below(a - c * t, b - d * t, c, d, top, bottom))
        found.append(term)
        rows = (c, d, a - c * term, b - d * term)
    return found


def sign_of_root(times, whole, top, bottom):
    """The sign of times * the root of top / bottom and whole together, by squares."""
    one, other = (times > 0) - (times < 0), (whole > 0) - (whole < 0)
    if one * other >= 0 or top == 0:
        return (one if top else 0) or other
    left, right = times * times * top, whole * whole * bottom
    return 0 if left == right else one if left > right else other


def is_not_below(times, whole, below, more, top, bottom):
    """Whether (times * root + whole) / (below * root + more) is from 0 on."""
    return sign_of_root(times, whole, top, bottom) * sign_of_root(below, more, top, bottom) >= 0


def greatest(holds):
    """The greatest whole number from 0 on for which it holds, as it does up to there."""
    low, high = 0, 1
    while holds(high):
        low, high = high, 2 * high
    while high - low > 1:
        amid = (low + high) // 2
        low, high = (amid, high) if holds(amid) else (low, amid)
    return low


def next_by_products(fraction, given):
    """What stands behind the given terms in the root's row, or None."""
    if fraction[0] < 0:
        return ("nought",)
    row = row_by_products(fraction, len(given) + 1)
    if row[:len(given)] != list(given):
        return None
    return ("term", row[-1]) if len(row) > len(given) else ("end",)


class RootRows(Asking):
    def test_against_whole_products(self):
        for fraction in SMALL:
            for many in (0, 1, 2, 7):
                row = row_by_products(fraction, many + 1)
                self.assertEqual(root_row(fraction, many), (row[:many], "more" if len(row) > many else "end"))
        for fraction in LARGE:
            row = row_by_products(fraction, 60)
            self.assertEqual(root_row(fraction, 59), (row[:59], "end" if len(row) <= 59 else "more"))

    def test_known(self):
        self.assertEqual(root_row((0, 1), 5), ([0], "end"))
        self.assertEqual(root_row((1, 1), 5), ([1], "end"))
        self.assertEqual(root_row((1, 1), 1), ([1], "end"))
        self.assertEqual(root_row((49, 1), 60), ([7], "end"))
        self.assertEqual(root_row((25, 4), 60), ([2, 2], "end"))
        self.assertEqual(root_row((25, 4), 2), ([2, 2], "end"))
        self.assertEqual(root_row((25, 4), 1), ([2], "more"))
        self.assertEqual(root_row((1, 25), 3), ([0, 5], "end"))
        self.assertEqual(root_row((2, 1), 60), ([1] + [2] * 59, "more"))
        self.assertEqual(root_row((19, 1), 8), ([4, 2, 1, 3, 1, 2, 8, 2], "more"))
        self.assertEqual(root_row((1, 2), 4), ([0, 1, 2, 2], "more"))
        # What lies beside a square.
        self.assertEqual(root_row((10 ** 28 - 1, 1), 3), ([10 ** 14 - 1, 1, 2 * 10 ** 14 - 2], "more"))
        self.assertEqual(root_row((10 ** 28 + 1, 1), 3), ([10 ** 14, 2 * 10 ** 14, 2 * 10 ** 14], "more"))
        self.assertEqual(root_row((10 ** 28, 1), 3), ([10 ** 14], "end"))

    def test_below_nought_and_many_of_0(self):
        for many in (0, 1, 60):
            self.assertEqual(root_row((-1, 10 ** 29), many), ([], "nought"))
            self.assertEqual(root_row((-4, 1), many), ([], "nought"))
        for fraction in ((0, 1), (1, 1), (2, 1), (4, 9)):
            self.assertEqual(root_row(fraction, 0), ([], "more"))

    def test_refused(self):
        for thing in all_but(is_lowest):
            self.assert_refused(NoFraction, thing, root_row, thing, 3)
            self.assert_refused(NoFraction, thing, root_row, thing, None)
        for thing in [*all_but(from_to(0, 60)), 61]:
            self.assert_refused(NoNumber, thing, root_row, (2, 1), thing)
            self.assert_refused(NoNumber, thing, root_row, (-2, 1), thing)
        self.assert_new_each_time(lambda many: root_row((2, 1), many)[0], 3)


class RootNext(Asking):
    def test_against_whole_products(self):
        for fraction in SMALL:
            row = row_by_products(fraction, 5)
            for given in [row[:many] for many in range(5)] + [[0], [1], [1, 1], row[:1] + [1], row + [1], row + [2]]:
                for handed in (given, tuple(given)):
                    self.assertEqual(root_next(fraction, handed), next_by_products(fraction, given))

    def test_known(self):
        self.assertEqual(root_next((2, 1), []), ("term", 1))
        self.assertEqual(root_next((2, 1), [1] + [2] * 99), ("term", 2))
        self.assertIsNone(root_next((2, 1), [1] + [2] * 98 + [3]))
        self.assertIsNone(root_next((2, 1), [2]))
        self.assertEqual(root_next((9, 4), [1]), ("term", 2))
        self.assertEqual(root_next((9, 4), [1, 2]), ("end",))
        for given in ([1, 2, 1], [1, 2, 2], [1, 1, 1], [2], [-1], [0], [1, 1]):
            self.assertIsNone(root_next((9, 4), given))
        self.assertEqual(root_next((0, 1), [0]), ("end",))
        self.assertIsNone(root_next((0, 1), [0, 1]))
        for given in ([], [0], [-1, 3], (7, 7)):
            self.assertEqual(root_next((-1, 3), given), ("nought",))

    def test_refused(self):
        for thing in all_but(is_lowest):
            self.assert_refused(NoFraction, thing, root_next, thing, [1])
            self.assert_refused(NoFraction, thing, root_next, thing, None)
        for thing in any_things():
            if is_numbers(thing):
                self.assertEqual(root_next((-3, 1), thing), ("nought",))
                self.assertEqual(root_next((10, 1), thing), next_by_products((10, 1), thing))
            else:
                self.assert_refused(NoRow, thing, root_next, (10, 1), thing)
                self.assert_refused(NoRow, thing, root_next, (-10, 1), thing)


def asked_until_it_stays(stream):
    """What it tells of its next place, when asking again takes nothing more; 15 terms at most."""
    while True:
        before = stream.taken()
        found = stream.ask(stream.asked())
        if found[0] == "term" and stream.asked() < 15:
            continue
        if found[0] != "open" or stream.taken() == before:
            return found


class Rooteds(Asking):
    def test_given_as_soon_as_all_have_it_and_never_earlier(self):
        chance = random.Random(93)
        for _ in range(220):
            manner = chance.choice(MANNERS)
            number = chance.choice(POOLS[manner])[0]
            if chance.random() < 0.3:
                number = told(value(number) ** 2)
            stream = Fed(manner)
            rooted = Rooted(stream, chance.choice((1, 40)))
            self.assert_settled(rooted, manner, [], asked_until_it_stays(rooted), False)
            row = row_by_rule(value(number), manner)
            for at, term in enumerate(row):
                stream.feed(term)
                self.assert_settled(rooted, manner, row[:at + 1], asked_until_it_stays(rooted), False)
            stream.finish()
            self.assert_settled(rooted, manner, row, asked_until_it_stays(rooted), True)
            right = ([], "nought") if number[0] < 0 else root_row(number, 15)
            found, word = rooted.terms(15)
            self.assertEqual(found, right[0])
            self.assertEqual(word, "more" if len(found) == 15 else right[1])

    def assert_settled(self, rooted, manner, row, found, ended):
        """All numbers of small bottoms have what is given, and two of them show that no more is settled."""
        taken, given, parts = rooted.taken(), rooted.made(), rooted.parts()
        self.assertEqual(taken, row[:len(taken)])
        if not taken:
            self.assertEqual(found, ("open", None, None))
        else:
            whole = ended and len(taken) == len(row)
            for number in [part for part, other in POOLS[manner] if other[:len(taken)] == taken][::3]:
                if not whole or row_by_rule(value(number), manner) == row:
                    for at, term in enumerate(given):
                        self.assertEqual(next_by_products(number, given[:at]), ("term", term))
                    if found[0] in ("end", "nought"):
                        self.assertEqual(next_by_products(number, given), found)
        if found[0] != "open":
            # Behind 15 terms it wasn't asked on.
            self.assertTrue(parts is None or len(given) == 15)
        if parts is not None:
            self.assertEqual([type(part) for part in (parts, *parts)], [tuple] * 3)
            things = [next_by_products(part, given) for part in parts]
            self.assertTrue(None not in things and things[0] != things[1])
            for part in parts:
                self.assertTrue(is_lowest(part))
                self.assertEqual(first_by_rule_and_rest(value(part), len(taken), manner)[0], taken)
            self.assertIs(shows_root_parts(taken, given, parts, manner), True)
        elif found[0] == "open":
            self.fail("nothing shows that it isn't settled")

    def test_of_streams_that_end(self):
        for manner in MANNERS:
            for number in SMALL + LARGE[1:2] + [(-1, 3), (-4, 1)]:
                row = row_by_rule(value(number), manner) if number not in LARGE or manner != "ceil" else None
                if row is None:
                    continue
                rooted = Rooted(Row(row, manner))
                self.assertEqual((rooted.manner(), rooted.depth()), ("floor", 1))
                found = asked_on(rooted, 12)
                right = ([], "nought") if number[0] < 0 else root_row(number, 12)
                self.assertEqual(found, right if len(right[0]) < 12 else (right[0], "more"))

    def test_known(self):
        self.assertEqual(Rooted(Row([0])).terms(5), ([0], "end"))
        self.assertEqual(Rooted(Row([1], "ceil")).terms(5), ([1], "end"))
        self.assertEqual(Rooted(Row([-1])).terms(5), ([], "nought"))
        self.assertEqual(Rooted(Row([2, 4])).terms(5), ([1, 2], "end"))
        self.assertEqual(Rooted(Row([2, 4], "near")).ask(999), ("end",))
        self.assertEqual(Rooted(Row([2])).terms(1000), ([1] + [2] * 999, "more"))
        # The root of e is [1; 1, 1, 1, 5, 1, 1, 9, ..].
        self.assertEqual(Rooted(endless()).terms(12), ([1, 1, 1, 1, 5, 1, 1, 9, 1, 1, 13, 1], "more"))
        # A root of a root: the square of 1;2,2,2 and so on is two.
        self.assertEqual(Rooted(Running(Surd(0, 4))).terms(9), root_row((2, 1), 9))
        self.assertEqual(Rooted(Running(Surd(3, 8))).terms(9), ([2, 2, 2, 2, 2, 2, 2, 2, 2], "more"))

    def test_of_fractions_and_surds_of_thirty_figures(self):
        for number in LARGE:
            for manner in ("floor", "near"):
                rooted = Rooted(Row(row_by_rule(value(number), manner), manner), 64)
                row = row_by_products(number, 40)
                self.assertEqual(asked_on(rooted, 40)[0], row)
        surd = Surd(123456789012345678901234567891, 987654321098765432109876543210, 271828182845904523536028747135)
        # The root squared is the number again: x less its square's terms never part, so bounds hold it.
        rooted = Rooted(Running(surd))
        self.assertEqual(rooted.terms(60)[1], "more")
        low, high = [value(end) ** 2 for end in rooted.bounds()]
        for end, word in ((low, "less"), (high, "more")):
            self.assertEqual(Surd(end.numerator, 0, end.denominator).compare(surd), word)

    def test_four_deep(self):
        number = 10 ** 16 + 1
        stream = Row([number])
        for depth in range(1, 5):
            stream = Rooted(stream)
            self.assertEqual(stream.depth(), depth)
        self.assertEqual(Rooted(Rooted(Rooted(Rooted(Row([2 ** 16]))))).terms(3), ([2], "end"))
        terms = asked_on(stream, 30)
        self.assertEqual(terms[1], "more")
        low, high = [value(end) ** 16 for end in stream.bounds()]
        self.assertTrue(low <= number <= high and high - low < 1)
        self.assert_refused(TooMany, 5, Rooted, stream)
        self.assert_refused(TooMany, 5, Rooted, Tail(stream, 3), 1)
        self.assertEqual(Two(((0, 1, 1, 0), (0, 0, 0, 1)), Rooted(Row([4])), Rooted(Row([9]))).terms(5), ([5], "end"))

    def test_first_term_ahead_of_all_and_no_more_than_needed(self):
        stream = Row([5, 3, 9])
        rooted = Rooted(stream)
        self.assertEqual((stream.asked(), rooted.taken(), rooted.bounds()), (0, [], (None, None)))
        self.assertEqual(rooted.ask(0), ("term", 2))
        self.assertEqual((stream.asked(), rooted.taken()), (1, [5]))
        self.assertEqual(rooted.bounds(), ((2, 1), (3, 1)))
        # Of 5;3 the roots are from 2.29 to 2.31: the next two terms are settled by it.
        self.assertEqual(rooted.ask(1), ("term", 3))
        self.assertEqual(rooted.taken(), [5, 3])
        rooted.taken().append(7)
        self.assertEqual(rooted.taken(), [5, 3])

    def test_a_whole_square_at_an_end(self):
        # Numbers from 4 on, and below 5: the root's 2 is settled, and whether it ends isn't.
        stream = fed([4])
        rooted = Rooted(stream)
        self.assertEqual(rooted.ask(1), ("open", (2, 1), (3, 1)))
        self.assertIn((4, 1), rooted.parts())
        stream.feed(2)
        self.assertEqual(rooted.ask(1)[0], "open")
        self.assertNotIn((4, 1), rooted.parts())
        stream.finish()
        self.assertEqual(rooted.ask(1), ("term", 8))
        # In `ceil` 4 tells what is above 3, and 4 itself.
        stream = fed([4], "ceil")
        rooted = Rooted(stream)
        self.assertEqual(rooted.ask(0), ("open", None, None))
        self.assertEqual([root_next(part, []) for part in sorted(rooted.parts(), key=value)], [("term", 1), ("term", 2)])
        stream.finish()
        self.assertEqual(rooted.terms(3), ([2], "end"))

    def test_about_nought(self):
        stream = fed([0], "near")
        rooted = Rooted(stream)
        self.assertEqual(rooted.ask(0), ("open", None, None))
        self.assertEqual(sorted(root_next(part, [])[0] for part in rooted.parts()), ["nought", "term"])
        stream.feed(-7)
        self.assertEqual(rooted.ask(0), ("nought",))
        self.assertIsNone(rooted.parts())
        # Of `ceil` 0 is nought, or below it.
        stream = fed([0], "ceil")
        rooted = Rooted(stream)
        self.assertEqual(rooted.ask(3)[0], "open")
        self.assertEqual(sorted(root_next(part, [])[0] for part in rooted.parts()), ["nought", "term"])
        stream.finish()
        self.assertEqual(rooted.terms(3), ([0], "end"))
        self.assertEqual(Rooted(fed([-1])).ask(0), ("nought",))
        self.assertEqual(Rooted(fed([-1], "ceil")).ask(0), ("nought",))
        self.assertEqual(Rooted(fed([-1], "near")).ask(0), ("nought",))

    def test_open_and_nought_streams(self):
        stream = Fed()
        rooted = Rooted(stream)
        for _ in range(2):
            self.assertEqual(rooted.ask(0), ("open", None, None))
            one, other = rooted.parts()
            self.assertNotEqual(root_next(one, []), root_next(other, []))
        nought = Tail(Row([3]), 1)
        rooted = Rooted(nought)
        one, other = rooted.parts()
        self.assertNotEqual(root_next(one, []), root_next(other, []))
        self.assertEqual(nought.asked(), 0)
        self.assertEqual(rooted.terms(3), ([], "nought"))
        self.assertEqual((rooted.parts(), rooted.taken(), rooted.bounds()), (None, [], (None, None)))
        # A thing that is settled is given, though the stream is open behind.
        stream = fed([2, 4])
        rooted = Rooted(stream)
        self.assertEqual(rooted.terms(9), ([1, 2], "open"))
        stream.finish()
        self.assertEqual(rooted.terms(9), ([1, 2], "end"))
        self.assertIsNone(rooted.parts())

    def test_parts_take_nothing(self):
        stream = endless()
        rooted = Rooted(stream)
        for place in (None, 0, 3, 9):
            if place is not None:
                rooted.ask(place)
            asked = (stream.asked(), rooted.asked())
            for _ in range(2):
                self.assertEqual(rooted.parts(), rooted.parts())
                rooted.bounds()
                rooted.taken()
            self.assertEqual((stream.asked(), rooted.asked()), asked)

    def test_bounds_only_narrow(self):
        rooted = Rooted(Ruled([3], [3, 5], [1, 0], "near"))
        last = None
        for place in range(40):
            rooted.ask(place)
            low, high = map(value, rooted.bounds())
            self.assertTrue(last is None or last[0] <= low <= high <= last[1])
            last = low, high

    def test_shared_with_others(self):
        stream = endless()
        rooted, machine = Rooted(stream), same(stream, "near")
        right, other = Rooted(endless()), same(endless(), "near")
        for place in (3, 0, 12, 30):
            self.assertEqual(rooted.ask(place), right.ask(place))
            self.assertEqual(machine.ask(place), other.ask(place))
        self.assertEqual(rooted.taken(), right.taken())
        self.assertEqual(neighbours_of(Rooted(Row([2])), 20), ("told", (24, 17), (17, 12)))


def slow():
    """A stream next above 9/4, whose root begins with 1;1,1; what is behind it only the far terms tell."""
    return Row([3, 2, 2, 3] + [2] * 95 + [3], "ceil")


def asked_until_third(rooted):
    """Its first three terms, asked as often as it takes."""
    while rooted.ask(2)[0] == "open":
        pass


class Most(Asking):
    def test_so_many_places_in_one_ask(self):
        for most in (1, 2, 7, 40, 64):
            stream = slow()
            rooted = Rooted(stream, most)
            asked_until_third(rooted)
            before = stream.asked()
            for times in range(1, 9):
                if before + times * most >= 100:
                    break
                self.assertEqual(rooted.ask(3)[0], "open")
                self.assertEqual(stream.asked(), before + times * most)
                self.assertEqual(rooted.taken(), stream.made())
            for _ in range(100):
                rooted.ask(3)
            self.assertEqual(rooted.ask(3)[0], "term")

    def test_forty_where_nothing_is_told(self):
        for most, handed in ((40, {}), (39, {"most": 39}), (64, {"most": 64})):
            stream = slow()
            rooted = Rooted(stream, **handed)
            asked_until_third(rooted)
            before = stream.asked()
            self.assertEqual(rooted.ask(3)[0], "open")
            self.assertEqual(stream.asked(), before + most)

    def test_an_end_is_counted_and_the_first_place_is_not(self):
        # Of 1/4 the root's 2 is settled only by the end.
        rooted = Rooted(Row([1, 2, 2, 2], "ceil"), 2)
        self.assertEqual(rooted.ask(0), ("term", 0))
        self.assertEqual(rooted.taken(), [1, 2])
        self.assertEqual(rooted.ask(1)[0], "open")
        self.assertEqual(rooted.taken(), [1, 2, 2, 2])
        self.assertEqual(rooted.ask(1), ("term", 2))
        rooted = Rooted(Row([1, 2, 2, 2], "ceil"), 3)
        self.assertEqual(rooted.ask(1), ("term", 2))
        # Only the first place isn't counted, whichever place of its own it is asked for.
        rooted = Rooted(Row([3, 2, 2, 2], "ceil"), 1)
        for taken in ([3, 2], [3, 2, 2]):
            self.assertEqual(rooted.ask(1)[0], "open")
            self.assertEqual(rooted.taken(), taken)
        self.assertEqual(rooted.ask(1), ("term", 2))
        rooted = Rooted(Row([9], "ceil"), 1)
        self.assertEqual(rooted.ask(0), ("term", 3))
        self.assertEqual(rooted.ask(1), ("end",))

    def test_refused(self):
        stream = endless()
        for thing in all_but(is_stream):
            self.assert_refused(NoStream, thing, Rooted, thing)
            self.assert_refused(NoStream, thing, Rooted, thing, 0)
        for thing in all_but(from_to(1, 64)):
            self.assert_refused(NoNumber, thing, Rooted, stream, thing)
        deep = stream
        for _ in range(4):
            deep = same(deep)
        self.assert_refused(NoNumber, 65, Rooted, deep, 65)
        self.assert_refused(TooMany, 5, Rooted, deep, 64)
        rooted = Rooted(stream)
        for thing in all_but(from_to(0, 999)):
            self.assert_refused(NoPlace, thing, rooted.ask, thing)
        self.assertEqual((stream.asked(), rooted.asked()), (0, 0))
        self.assertTrue(isinstance(rooted, Stream) and not isinstance(rooted, Machine))


class ShownParts(Asking):
    def test_against_the_words(self):
        chance = random.Random(95)
        found = {True: 0, False: 0}
        numbers = fractions_to(6, 2)
        for _ in range(4000):
            manner = chance.choice(MANNERS)
            parts = tuple(chance.choices(numbers, k=2))
            taken = row_by_rule(value(parts[0]), manner)[:chance.randint(0, 2)]
            given = [] if parts[1][0] < 0 else row_by_products(parts[1], 3)[:chance.randint(0, 2)]
            things = [next_by_products(part, given) for part in parts]
            right = all(first_by_rule_and_rest(value(part), len(taken), manner)[0] == taken for part in parts)
            right = right and None not in things and things[0] != things[1]
            self.assertIs(shows_root_parts(taken, given, parts, manner), right)
            self.assertIs(shows_root_parts(tuple(taken), tuple(given), parts[::-1], manner), right)
            found[right] += 1
        self.assertGreater(min(found.values()), 300)

    def test_known(self):
        self.assertIs(shows_root_parts([], [], ((0, 1), (1, 1))), True)
        self.assertIs(shows_root_parts([], [], ((-1, 1), (1, 1)), manner="ceil"), True)
        self.assertIs(shows_root_parts([4], [2], ((4, 1), (9, 2))), True)
        self.assertIs(shows_root_parts([4], [2], ((4, 1), (4, 1))), False)
        self.assertIs(shows_root_parts([4], [2, 1], ((4, 1), (9, 2))), False)
        self.assertIs(shows_root_parts([-2], [2], ((-2, 1), (-3, 2))), False)

    def test_refused(self):
        parts = ((4, 1), (9, 2))
        for thing in any_things():
            if not is_manner_word(thing):
                self.assert_refused(NoManner, thing, shows_root_parts, None, None, parts, thing)
            for manner in MANNERS:
                if not (is_numbers(thing) and (not thing or is_beginning_by_rule(list(thing), manner))):
                    self.assert_refused(NoRow, thing, shows_root_parts, thing, None, parts, manner)
            if not is_numbers(thing):
                self.assert_refused(NoRow, thing, shows_root_parts, [4], thing, parts)
                self.assert_refused(NoRow, thing, shows_root_parts, [4], thing, None)
            self.assertIs(shows_root_parts([4], [2], thing), False)
            self.assertIs(shows_root_parts([4], [2], (thing, (9, 2))), False)
        self.assertIs(shows_root_parts([4], [2], list(parts)), False)
        self.assertIs(shows_root_parts([4], [2], (*parts, (9, 2))), False)
