import random
from fractions import Fraction
from itertools import product
from math import gcd

from termstream.errors import Flat, NoFraction, NoManner, NoNumber, NoPlace, NoRows, NoStream, TooMany
from termstream.machines import Machine
from termstream.ones import One
from termstream.settling import neighbours_of
from termstream.sources import Fed, Row, Ruled, Tail
from termstream.streams import Stream
from termstream.twos import Two, plain_two, shows_pairs_apart
from tests.search import MANNERS, first_by_rule_and_rest, fractions_to, row_by_rule, told, value
from tests.test_machines import things_taken
from tests.test_ones import asked_on
from tests.test_streams import endless, fed
from tests.things import (
    Asking, all_but, any_things, from_to, is_four_rows, is_lowest, is_manner_word, is_numbers, is_steep_four, is_stream,
)

SUM = ((0, 1, 1, 0), (0, 0, 0, 1))
DIFFERENCE = ((0, 1, -1, 0), (0, 0, 0, 1))
PRODUCT = ((1, 0, 0, 0), (0, 0, 0, 1))
QUOTIENT = ((0, 1, 0, 0), (0, 0, 1, 0))
FOUR = (SUM, DIFFERENCE, PRODUCT, QUOTIENT)
ROWS = FOUR + (((1, 2, -1, 3), (2, -1, 1, 1)), ((1, 0, 0, -1), (0, 1, 1, 0)), ((0, -3, 2, 0), (1, 0, 0, 4)),
               ((0, 0, 0, 1), (1, 1, 1, 1)), ((2, 0, 0, 0), (0, 0, 0, -3)))
SLOW = ((0, 1, 1, 0), (0, 0, 0, 10 ** 9))
TWELVE = ((123456789012, -987654321098, 345678901234, 456789012345),
          (-234567890123, 876543210987, 765432109876, -111111111111))
POOLS = {manner: [(part, row_by_rule(value(part), manner)) for part in fractions_to(8, 3)] for manner in MANNERS}
TRIPLES = list(product(MANNERS, MANNERS, MANNERS))


def number_by_rule(rows, pair):
    """What the rows make of two fractions, or None."""
    (a, b, c, d), (e, f, g, h) = rows
    x, y = map(value, pair)
    below = e * x * y + f * x + g * y + h
    return (a * x * y + b * x + c * y + d) / below if below else None


def reckoned(rows, pair, manner):
    number = number_by_rule(rows, pair)
    return None if number is None else row_by_rule(number, manner)


def right_end(row):
    """What a stream tells of all places of a row, or of none."""
    return ([], "nought") if row is None else (row, "end")


def begins(number, terms, manner, ended=False):
    """Whether the number's row begins with the terms, or is just these."""
    found, rest = first_by_rule_and_rest(value(number), len(terms), manner)
    return found == list(terms) and (rest is None or not ended)


def pairs_apart(rows, pairs, place, manner):
    """Whether the things at the place of two numbers are unlike, and all ahead alike, by the words."""
    numbers = [number_by_rule(rows, pair) for pair in pairs]
    if None in numbers:
        return place == 0 and numbers[0] != numbers[1]
    row, other = [first_by_rule_and_rest(number, place + 1, manner)[0] for number in numbers]
    return min(len(row), len(other)) >= place and row[:place] == other[:place] and row != other


def asked_until_it_stays(machine):
    """What it tells of its next place, when asking again takes nothing more."""
    while True:
        before = machine.state()
        found = machine.ask(machine.asked())
        if found[0] in ("end", "nought") or (found[0] == "open" and machine.state() == before):
            return found


def fed_by_turns(chance, rows, numbers, of, manner, most):
    """A Two of two Feds, told each time when a thing more was fed to one of them."""
    feds = [Fed(word) for word in of]
    left = [row_by_rule(value(number), word) + [None] for number, word in zip(numbers, of)]
    machine = Two(rows, feds[0], feds[1], manner, most)
    yield machine
    while left[0] or left[1]:
        at = chance.choice([part for part in (0, 1) if left[part]])
        term = left[at].pop(0)
        if term is None:
            feds[at].finish()
        else:
            feds[at].feed(term)
        yield machine


class Settled(Asking):
    def test_given_as_soon_as_all_pairs_have_it_and_never_earlier(self):
        chance = random.Random(82)
        for _ in range(260):
            rows, of, manner = chance.choice(ROWS), chance.choices(MANNERS, k=2), chance.choice(MANNERS)
            numbers = [chance.choice(POOLS[word])[0] for word in of]
            right = reckoned(rows, numbers, manner)
            for machine in fed_by_turns(chance, rows, numbers, of, manner, chance.choice((1, 40))):
                self.assert_settled(machine, rows, of, asked_until_it_stays(machine), chance)
                self.assertEqual(machine.made(), (right or [])[:machine.asked()])
            self.assertEqual(machine.terms(1000), right_end(right))

    def test_of_random_rows(self):
        chance = random.Random(81)
        for _ in range(200):
            rows = ((0,), (0,))
            while not is_steep_four(rows):
                rows = tuple(tuple(chance.choice((0, 0, 1, -1, 2, -3)) for _ in range(4)) for _ in range(2))
            of, manner = chance.choices(MANNERS, k=2), chance.choice(MANNERS)
            numbers = [chance.choice(POOLS[word])[0] for word in of]
            for machine in fed_by_turns(chance, rows, numbers, of, manner, 40):
                self.assert_settled(machine, rows, of, asked_until_it_stays(machine), chance)
            self.assertEqual(machine.terms(1000), right_end(reckoned(rows, numbers, manner)))

    def assert_settled(self, machine, rows, of, found, chance):
        """All pairs of small bottoms have what is given, and two of them show that no more is settled."""
        terms, ends, _ = machine.state()
        parts, bounds = machine.parts(), machine.bounds()
        if not terms[0] or not terms[1]:
            self.assertEqual((parts, bounds, found), (None, (None, None), ("open", None, None)))
            return
        given, manner = machine.made(), machine.manner()
        listed = [[part for part, row in POOLS[of[at]] if (row if ends[at] else row[:len(terms[at])]) == [*terms[at]]]
                  for at in (0, 1)]
        pairs = list(product(*listed))
        for pair in pairs if len(pairs) < 30 else chance.sample(pairs, 30):
            number = number_by_rule(rows, pair)
            row = None if number is None else row_by_rule(number, manner)
            if given:
                self.assertEqual(row[:len(given)], given)
            if found[0] != "open":
                self.assertEqual(row, None if found[0] == "nought" else given)
            if bounds[0] is not None:
                self.assertTrue(value(bounds[0]) <= number <= value(bounds[1]))
        if found[0] != "open":
            self.assertIsNone(parts)
            return
        self.assertTrue(pairs_apart(rows, parts, len(given), manner), (rows, of, manner, machine.state(), parts))
        for at, part in product((0, 1), parts):
            self.assertTrue(is_lowest(part[at]) and begins(part[at], terms[at], of[at], ends[at]))
        self.assertIs(shows_pairs_apart(rows, *terms, *parts, len(given), manner, *of), True)

    def test_nothing_is_taken_that_is_not_needed(self):
        # What a machine has taken for a place doesn't settle it without the last thing.
        for rows, (of, other_of, manner) in product(ROWS[:6], TRIPLES[::2]):
            x, y = (17, 5), (-8, 13)
            streams = Row(row_by_rule(value(x), of), of), Row(row_by_rule(value(y), other_of), other_of)
            machine = Two(rows, *streams, manner, 1)
            last = None
            for _ in range(80):
                found = machine.ask(machine.asked())
                if found[0] != "open":
                    # With `most` of 1 it was open, and two pairs part there, ahead of the last thing.
                    self.assertTrue(last is None or last[0] < things_taken(machine) <= last[0] + 1)
                    last = None
                    if found[0] == "end":
                        break
                elif min(map(len, machine.state()[0])) > 0:
                    self.assertTrue(pairs_apart(rows, machine.parts(), machine.asked(), manner))
                    last = (things_taken(machine),)
            self.assertEqual(machine.terms(1000), right_end(reckoned(rows, (x, y), manner)))


class Made(Asking):
    def test_against_the_rule(self):
        numbers = [(7, 2), (-7, 3), (3, 1), (-1, 2), (0, 1)]
        for rows, x, y, (of, other_of, manner) in product(ROWS, numbers, numbers, TRIPLES[::4]):
            right = reckoned(rows, (x, y), manner)
            streams = Row(row_by_rule(value(x), of), of), Row(row_by_rule(value(y), other_of), other_of)
            machine = Two(rows, *streams, manner)
            self.assertEqual(machine.terms(1000), right_end(right), (rows, x, y, of, other_of, manner))
            self.assertEqual(machine.ask(999), ("nought",) if right is None else ("end",))
            self.assertEqual((machine.manner(), machine.depth()), (manner, 1))

    def test_of_rows_of_twelve_figures(self):
        row = [123456789012 + 7919 * k for k in range(100)]
        for (of, other_of, manner), sign in product(TRIPLES, (1, -1)):
            terms = [[first] + (row[1:] if word != "near" else [sign * term for term in row[1:]])
                     for first, word in ((sign * 987654321098, of), (987654321098, other_of))]
            machine = Two(TWELVE, Row(terms[0], of), Row(terms[1], other_of), manner, 64)
            pair = []
            for terms_of, word in zip(terms, (of, other_of)):
                number = Row(terms_of, word)
                number.ask(100)
                pair.append(number.bounds()[0])
            exact = number_by_rule(TWELVE, pair)
            self.assertEqual(machine.terms(300), (first_by_rule_and_rest(exact, 300, manner)[0], "more"))
            low, high = map(value, machine.bounds())
            self.assertTrue(low <= exact <= high)

    def test_of_fractions_of_thirty_figures(self):
        x = (123456789012345678901234567891, 987654321098765432109876543210)
        y = (-314159265358979323846264338328, 271828182845904523536028747135)
        x, y = told(value(x)), told(value(y))
        for rows, (of, other_of, manner) in product(ROWS, [("floor", "near", "floor"), ("near", "floor", "near")]):
            streams = Row(row_by_rule(value(x), of), of), Row(row_by_rule(value(y), other_of), other_of)
            self.assertEqual(asked_on(Two(rows, *streams, manner), 1000), right_end(reckoned(rows, (x, y), manner)))

    def test_of_endless_rows(self):
        for rows, manner in product(FOUR, MANNERS):
            machine = Two(rows, endless(), Ruled([1], [2]), manner)
            terms, word = machine.terms(60)
            self.assertEqual(word, "more")
            # Both numbers lie between what their rows of 199 and of 200 terms tell, and so do all four results.
            ends = [[value_of(stream.terms(many)[0]) for many in (199, 200)]
                    for stream in (endless(), Ruled([1], [2]))]
            for pair in product(*ends):
                exact = number_by_rule(rows, pair)
                self.assertEqual(first_by_rule_and_rest(exact, 60, manner)[0], terms)

    def test_four_deep(self):
        parts = [(7, 5), (-9, 4), (13, 3), (5, 8), (11, 9)]
        for of, manner in product(MANNERS, MANNERS):
            exact, stream = value(parts[0]), Row(row_by_rule(value(parts[0]), of), of)
            for depth, part in enumerate(parts[1:]):
                rows = FOUR[depth]
                exact = number_by_rule(rows, (told(exact), part))
                stream = Two(rows, stream, Row(row_by_rule(value(part), of), of), manner)
                self.assertEqual(stream.depth(), depth + 1)
            self.assertEqual(asked_on(stream, 1000), (row_by_rule(exact, manner), "end"))

    def test_four_deep_of_endless_rows(self):
        stream = Ruled([1], [2])
        for other in (Ruled([1], [1, 2]), Ruled([2], [4]), Ruled([0], [1]), endless()):
            stream = Two(SUM, stream, other, "near")
        flat = Two(SUM, Two(SUM, endless(), Ruled([0], [1])),
                   Two(SUM, Ruled([2], [4]), Two(SUM, Ruled([1], [1, 2]), Ruled([1], [2]))), "near")
        self.assertEqual(stream.terms(60), flat.terms(60))
        self.assertEqual(stream.terms(60)[1], "more")

    def test_depth(self):
        deep = endless()
        for depth in range(1, 5):
            deep = One(((1, 0), (0, 1)), deep)
            for one, other in ((deep, endless()), (endless(), deep), (Tail(deep, 2), deep)):
                if depth < 4:
                    self.assertEqual(Two(SUM, one, other).depth(), depth + 1)
                else:
                    self.assert_refused(TooMany, 5, Two, SUM, one, other)

    def test_forty_and_floor_where_nothing_is_told(self):
        x, y = Ruled([1], [2]), Ruled([1], [2])
        machine = Two(((0, 1, 1, 0), (0, 0, 0, 10 ** 29)), x, y)
        self.assertEqual(machine.manner(), "floor")
        self.assertEqual(machine.ask(1)[0], "open")
        self.assertEqual(x.asked() + y.asked(), 42)
        x, y = Ruled([1], [2]), Ruled([1], [2])
        machine = Two(SLOW, x, y, most=3, manner="near")
        self.assertEqual(machine.ask(1)[0], "open")
        self.assertEqual((machine.manner(), x.asked() + y.asked()), ("near", 5))


def value_of(terms):
    number = Fraction(terms[-1])
    for term in reversed(terms[:-1]):
        number = term + 1 / number
    return told(number)


class OneAndTheSame(Asking):
    def test_a_stream_and_itself(self):
        for manner in MANNERS:
            for rows in (DIFFERENCE, QUOTIENT):
                stream = endless()
                machine = Two(rows, stream, stream, manner)
                last = None
                for times in range(1, 5):
                    found = machine.ask(0)
                    if found[0] == "term":
                        # Of `near` 1 or 0 is amid, and a narrow range about it has one nearest whole number.
                        self.assertEqual((manner, found[1]), ("near", 0 if rows == DIFFERENCE else 1))
                        found = machine.ask(1)
                    self.assertEqual(found[0], "open")
                    low, high = map(value, machine.bounds())
                    self.assertTrue(low < (0 if rows == DIFFERENCE else 1) < high)
                    self.assertTrue(last is None or last[0] <= low and high <= last[1])
                    last = low, high
                    self.assertGreaterEqual(stream.asked(), 20 * times)

    def test_it_is_looked_at_as_two(self):
        for rows in ROWS:
            stream = endless()
            shared, apart = Two(rows, stream, stream, "near"), Two(rows, endless(), endless(), "near")
            for place in (0, 3, 9):
                self.assertEqual(shared.ask(place), apart.ask(place))
                self.assertEqual(shared.state(), apart.state())
                self.assertEqual(shared.parts(), apart.parts())
        self.assertEqual(Two(SUM, *[endless()] * 2).terms(60), One(((2, 0), (0, 1)), endless()).terms(60))

    def test_a_stream_that_ends_and_itself(self):
        for rows, manner in product(ROWS, MANNERS):
            stream = Row([3, 7, 15])
            number = told(Fraction(3) + 1 / (7 + Fraction(1, 15)))
            right = reckoned(rows, (number, number), manner)
            self.assertEqual(Two(rows, stream, stream, manner).terms(1000), right_end(right))
            self.assertEqual(stream.asked(), 3)

    def test_two_machines_of_shared_streams_by_turns(self):
        x, y = endless(), Ruled([1], [2])
        one, other = Two(SUM, x, y), Two(PRODUCT, y, x, "near")
        alone, other_alone = Two(SUM, endless(), Ruled([1], [2])), Two(PRODUCT, Ruled([1], [2]), endless(), "near")
        for place in (0, 7, 3, 15, 40):
            self.assertEqual(other.ask(place), other_alone.ask(place))
            self.assertEqual(one.ask(place), alone.ask(place))
            self.assertEqual((one.state(), other.state()), (alone.state(), other_alone.state()))


class Ends(Asking):
    def test_a_quotient_by_nought(self):
        for manner, x in product(MANNERS, (Row([3, 7]), Row([0]), endless())):
            machine = Two(QUOTIENT, x, Row([0], manner), manner)
            self.assertEqual(machine.ask(5), ("nought",))
            self.assertEqual(machine.state()[1][1], True)
            self.assertEqual((machine.bounds(), machine.parts(), machine.terms(3)), ((None, None), None, ([], "nought")))
        # Its end settles it; no more of the first stream is taken than was by then.
        x, y = endless(), Row([0])
        machine = Two(QUOTIENT, x, y)
        self.assertEqual(machine.ask(0), ("nought",))
        self.assertEqual(machine.state()[:2], (((2, 1), (0,)), (False, True)))

    def test_nought_as_a_factor(self):
        for manner in MANNERS:
            x, y = Row([0], "near"), endless()
            machine = Two(PRODUCT, x, y, manner)
            self.assertEqual(machine.terms(9), ([0], "end"))
            self.assertEqual(machine.state()[:2], (((0,), (2,)), (True, False)))
            self.assertEqual((machine.bounds(), machine.parts()), (((0, 1), (0, 1)), None))
            x, y = endless(), Row([0], "ceil")
            self.assertEqual(Two(PRODUCT, x, y, manner).terms(9), ([0], "end"))

    def test_an_end_that_settles_a_term_amid(self):
        # Of x = 1/2 the number is 3 whatever y is: (2 x y - y + 3) / 1.
        rows = ((2, 0, -1, 3), (0, 0, 0, 1))
        machine = Two(rows, Row([0, 2]), endless())
        self.assertEqual(machine.terms(9), ([3], "end"))
        self.assertEqual(machine.state()[:2], (((0, 2), (2, 1)), (True, False)))
        # Just there is no number, whatever x is: 1 / (2 x y - x).
        machine = Two(((0, 0, 0, 1), (2, -1, 0, 0)), Ruled([1], [2]), Row([0, 2]))
        self.assertEqual(machine.ask(0), ("nought",))
        self.assertEqual(machine.state()[1], (False, True))

    def test_where_no_end_of_the_rests_is_in(self):
        # Behind a 1 that isn't the first one no row of `floor` ends, and none has a rest of 1.
        rows = ((2, 0, -1, 3), (0, 0, 0, 1))
        machine = Two(rows, Row([0, 2]), Ruled([1], [1]))
        self.assertEqual(machine.terms(9), ([3], "end"))
        self.assertEqual(machine.state()[:2], (((0, 2), (1, 1)), (True, False)))
        self.assertIsNone(machine.parts())
        # There is no number where x is 1/2, whatever y is.
        rows = ((0, 0, 0, 1), (2, 0, -1, 0))
        for x, y in (([0, 1], [1, 1]), ([0], [1, 1]), ([0, 1, 1], [1, 1])):
            machine = Two(rows, fed(x), fed(y))
            self.assertEqual(machine.ask(0)[0], "open")
            parts = machine.parts()
            for part in parts:
                self.assertTrue(begins(part[0], machine.state()[0][0], "floor"))
                self.assertTrue(begins(part[1], machine.state()[0][1], "floor"))
            self.assertTrue(pairs_apart(rows, parts, 0, "floor"))
        machine = Two(rows, fed([0, 2], finished=True), fed([1, 1]))
        self.assertEqual((machine.ask(0), machine.parts()), (("nought",), None))

    def test_streams_of_unlike_length(self):
        for one, other in (([3], [1, 2, 3, 4, 5, 6, 7]), ([1, 2, 3, 4, 5, 6, 7], [3])):
            x, y = Row(one), Row(other)
            machine = Two(SLOW, x, y)
            number = number_by_rule(SLOW, (value_of(one), value_of(other)))
            self.assertEqual(machine.terms(1000), (row_by_rule(number, "floor"), "end"))
            self.assertEqual(machine.state()[:2], ((tuple(one), tuple(other)), (True, True)))
        # The one has ended by then, and the other one goes on for ever.
        x = Ruled([1], [2])
        machine = Two(SUM, Row([3]), x)
        self.assertEqual(machine.terms(50)[0], [4] + [2] * 49)
        self.assertEqual(machine.state()[1], (True, False))

    def test_an_end_that_is_not_taken_yet(self):
        machine = Two(SUM, Row([3]), Row([4], "near"), "near")
        self.assertEqual(machine.state()[1], (False, False))
        self.assertEqual(machine.terms(5), ([7], "end"))
        self.assertEqual(machine.state()[1], (True, True))
        machine = Two(((1, 0, 0, 0), (0, 0, 0, 100)), Row([3]), Row([4]))
        self.assertEqual(machine.ask(0), ("term", 0))
        self.assertEqual(machine.state()[:2], (((3,), (4,)), (False, False)))
        self.assertEqual(machine.bounds(), ((3, 25), (1, 5)))

    def test_both_ended(self):
        machine = Two(SUM, fed([1, 2], finished=True), fed([2, 3], finished=True))
        self.assertEqual(machine.terms(9), ([3, 1, 5], "end"))
        self.assertEqual(machine.state()[1], (True, True))
        self.assertEqual(machine.bounds(), ((23, 6), (23, 6)))
        self.assertIsNone(machine.parts())

    def test_top_and_bottom_both_nought(self):
        # (3 x - 4) y / (3 x - 4): at x = 4/3 there is no number, else it is y.
        rows = ((3, 0, -4, 0), (0, 3, 0, -4))
        x, y = fed([1]), fed([5])
        machine = Two(rows, x, y)
        self.assertEqual(machine.ask(0), ("open", None, None))
        self.assertTrue(pairs_apart(rows, machine.parts(), 0, "floor"))
        # 1;2 is above 4/3, which isn't in: this corner counts not.
        x.feed(2)
        self.assertEqual(machine.ask(0), ("term", 5))
        self.assertEqual(machine.bounds(), ((5, 1), (6, 1)))
        # 3/2 is just 1;2, so this corner counts.
        rows = ((2, 0, -3, 0), (0, 2, 0, -3))
        x, y = fed([1, 2]), fed([5, 3])
        machine = Two(rows, x, y)
        self.assertEqual(machine.ask(0), ("open", None, None))
        self.assertEqual(machine.bounds(), (None, None))
        self.assertTrue(pairs_apart(rows, machine.parts(), 0, "floor"))
        x.feed(9)
        self.assertEqual(machine.ask(0), ("term", 5))
        x.finish()
        self.assertEqual(machine.ask(1), ("term", 3))
        # With x = 3/2 itself there is none.
        self.assertEqual(Two(rows, Row([1, 2]), endless()).ask(3), ("nought",))

    def test_both_nought_at_a_place_behind_the_first(self):
        # y (x - 1) / (x - 1) + 3 less its 3 is one over y, ever so.
        rows = ((3, 0, -3, 0), (0, 1, 0, -1))
        for manner in MANNERS:
            machine = Two(rows, Ruled([2], [3]), fed([0, 7], finished=True), manner)
            self.assertEqual(machine.terms(9), (row_by_rule(Fraction(3, 7), manner), "end"))


class OpenAndNought(Asking):
    def test_an_open_stream(self):
        for at in (0, 1):
            streams = [Ruled([1], [2]), Ruled([1], [2])]
            streams[at] = Fed()
            machine = Two(SUM, *streams)
            for _ in range(3):
                self.assertEqual(machine.ask(0), ("open", None, None))
            # The first one is asked first, so the other one isn't asked behind an open one.
            self.assertEqual([stream.asked() for stream in streams], [0, 0] if at == 0 else [1, 0])
            streams[at].feed(3)
            self.assertEqual(machine.ask(0), ("open", (4, 1), (6, 1)) if at == 0 else ("open", (13, 3), (11, 2)))
            self.assertEqual(machine.state()[0], ((3,), (1,)) if at == 0 else ((1, 2), (3,)))
            streams[at].feed(9)
            self.assertEqual(machine.ask(0), ("term", 4))

    def test_open_at_once(self):
        x, y = fed([3]), endless()
        machine = Two(SLOW, x, y, most=64)
        self.assertEqual(machine.ask(0), ("term", 0))
        self.assertEqual(machine.ask(1), ("open", (1, 2 * 10 ** 8), (7, 10 ** 9)))
        # As many are taken, so the first one is asked, which is open.
        self.assertEqual((x.asked(), y.asked()), (1, 1))

    def test_a_stream_of_nought(self):
        for rows, manner in product(ROWS, MANNERS):
            for nought in (Tail(Row([3]), 1), One(((1, 0), (1, -3)), Row([3]))):
                one, other = endless(), endless()
                machine = Two(rows, nought, other, manner)
                self.assertEqual(machine.terms(5), ([], "nought"))
                self.assertEqual((machine.bounds(), machine.parts(), other.asked()), ((None, None), None, 0))
                machine = Two(rows, one, nought, manner)
                self.assertEqual(machine.ask(999), ("nought",))
                self.assertEqual((machine.bounds(), machine.parts(), one.asked()), ((None, None), None, 1))

    def test_open_ahead_of_nought(self):
        machine = Two(SUM, Fed(), Tail(Row([3]), 1))
        self.assertEqual(machine.ask(0), ("open", None, None))


class Turns(Asking):
    def test_which_stream_is_asked_next(self):
        chance = random.Random(82)
        for _ in range(60):
            x = Row([3, 2, 5, 1, 9, 4, 7][:chance.randint(1, 7)] + [3])
            y = Row([1, 6, 2, 8, 1, 3, 5][:chance.randint(1, 7)] + [2])
            machine = Two(SLOW, x, y, most=1)
            taken, ended = [0, 0], [False, False]
            while not all(ended):
                at = self.next_by_rule(taken, ended)
                machine.ask(1)
                if min(taken) == 0:
                    # The first places aren't counted, so the first term of both is taken with one more.
                    taken, at = [1, 1], 0
                row = (x, y)[at]._row
                if taken[at] < len(row):
                    taken[at] += 1
                else:
                    ended[at] = True
                terms, ends, _ = machine.state()
                if machine.asked() > 1:
                    break
                self.assertEqual(([len(part) for part in terms], list(ends)), (taken, ended))

    def next_by_rule(self, taken, ended):
        """Fewer terms, the first one of as many, the other one of one that has ended."""
        if ended[0]:
            return 1
        if ended[1]:
            return 0
        return 1 if taken[1] < taken[0] else 0

    def test_where_an_end_is_fewer(self):
        # Behind its end the first one, of which fewer terms are taken, is asked no more.
        x, y = Row([3]), Ruled([1], [2])
        machine = Two(SLOW, x, y, most=5)
        self.assertEqual(machine.ask(1)[0], "open")
        self.assertEqual(machine.state()[:2], (((3,), (1, 2, 2, 2, 2)), (True, False)))
        x, y = Ruled([1], [2]), Row([3, 4])
        machine = Two(SLOW, x, y, most=7)
        self.assertEqual(machine.ask(1)[0], "open")
        self.assertEqual(machine.state()[:2], (((1, 2, 2, 2, 2, 2), (3, 4)), (False, True)))


class Most(Asking):
    def test_so_many_places_together(self):
        for most in (1, 2, 7, 64):
            x, y = Ruled([1], [2]), Ruled([1], [2])
            machine = Two(SLOW, x, y, "floor", most)
            self.assertEqual(machine.ask(0), ("term", 0))
            self.assertEqual((x.asked(), y.asked()), (1, 1))
            for times in range(1, 4):
                if machine.ask(1)[0] == "term":
                    break
                asks = times * most
                self.assertEqual((x.asked(), y.asked()), (1 + (asks + 1) // 2, 1 + asks // 2))
                self.assertEqual(things_taken(machine), 2 + asks)

    def test_the_answer_does_not_hang_on_it(self):
        for rows in ROWS:
            right = Two(rows, endless(), Ruled([1], [2]), "near", 64).terms(20)
            for most in (1, 2, 5):
                machine = Two(rows, endless(), Ruled([1], [2]), "near", most)
                self.assertEqual(asked_on(machine, 20), right)

    def test_any_thing_as_most(self):
        one, other = endless(), endless()
        for thing in all_but(from_to(1, 64)):
            self.assert_refused(NoNumber, thing, Two, SUM, one, other, "floor", thing)
        self.assert_refused(NoNumber, 0, Two, SUM, one, other, most=0)
        self.assert_refused(NoNumber, 65, Two, SUM, one, other, most=65)


class Refused(Asking):
    def test_rows(self):
        one, other = Row([3, 7]), Fed()
        for thing in any_things():
            if not is_four_rows(thing):
                self.assert_refused(NoRows, thing, Two, thing, one, other)
                self.assert_refused(NoRows, thing, Two, thing, None, None, None, None)
                self.assert_refused(NoRows, thing, plain_two, thing, (1, 2), (1, 3), 5)
                self.assert_refused(NoRows, thing, plain_two, thing, None, None, None, None)
                self.assert_refused(NoRows, thing, shows_pairs_apart, thing, [3], [3], None, None, 0)
                self.assert_refused(NoRows, thing, shows_pairs_apart, thing, [3], [3], None, None, 0, None)
            elif not is_steep_four(thing):
                self.assert_refused(Flat, thing, Two, thing, one, other)
                self.assert_refused(Flat, thing, Two, thing, None, None, None, None)
                self.assert_refused(Flat, thing, plain_two, thing, None, None, None, None)
                self.assert_refused(Flat, thing, shows_pairs_apart, thing, [3], [3], None, None, 0, None)

    def test_flat_rows(self):
        for rows in (((0, 0, 0, 0), (1, 2, 3, 4)), ((1, 2, 3, 4), (0, 0, 0, 0)), ((0, 0, 0, 0), (0, 0, 0, 0)),
                     ((1, 2, 3, 4), (2, 4, 6, 8)), ((1, 2, 3, 4), (-1, -2, -3, -4)), ((0, 0, 0, 5), (0, 0, 0, 7)),
                     ((2, 4, 0, 6), (3, 6, 0, 9)), ((0, 3, 0, -3), (0, -7, 0, 7))):
            self.assert_refused(Flat, rows, Two, rows, Row([3]), Row([3]))
        for rows in (((1, 2, 3, 4), (2, 4, 6, 9)), ((0, 0, 0, 5), (0, 0, 7, 0)), ((1, 0, 0, 1), (1, 0, 0, -1)),
                     ((1, 1, 1, 1), (1, 1, 1, 0)), ((1, 0, 0, 0), (0, 1, 1, 1))):
            self.assertEqual(Two(rows, Row([3]), Row([2])).terms(9), right_end(reckoned(rows, ((3, 1), (2, 1)), "floor")))

    def test_streams_and_manners(self):
        stream = endless()
        for thing in all_but(is_stream):
            self.assert_refused(NoStream, thing, Two, SUM, thing, stream)
            self.assert_refused(NoStream, thing, Two, SUM, thing, None, None, None)
            self.assert_refused(NoStream, thing, Two, SUM, stream, thing)
            self.assert_refused(NoStream, thing, Two, SUM, stream, thing, None, None)
        for thing in all_but(is_manner_word):
            self.assert_refused(NoManner, thing, Two, SUM, stream, stream, thing)
            self.assert_refused(NoManner, thing, Two, SUM, stream, stream, thing, 0)
            self.assert_refused(NoManner, thing, Two, SUM, stream, stream, manner=thing)
        deep = stream
        for _ in range(4):
            deep = One(((1, 0), (0, 1)), deep)
        self.assert_refused(NoNumber, 65, Two, SUM, deep, stream, "floor", 65)
        self.assert_refused(NoManner, "x", Two, SUM, deep, stream, "x")
        self.assertEqual(stream.asked(), 0)

    def test_places(self):
        machine = Two(SUM, endless(), endless())
        for thing in all_but(from_to(0, 999)):
            self.assert_refused(NoPlace, thing, machine.ask, thing)
        for thing in all_but(from_to(0, 1000)):
            self.assert_refused(NoNumber, thing, machine.terms, thing)
        self.assertIsInstance(machine, Machine)
        self.assertIsInstance(machine, Stream)


class States(Asking):
    def test_against_the_rows(self):
        chance = random.Random(84)
        for _ in range(120):
            rows, of, manner = chance.choice(ROWS), chance.choices(MANNERS, k=2), chance.choice(MANNERS)
            numbers = [chance.choice(POOLS[word])[0] for word in of]
            for machine in fed_by_turns(chance, rows, numbers, of, manner, 1):
                machine.ask(machine.asked())
                self.assert_state(machine, rows, of)

    def assert_state(self, machine, rows, of):
        """The rest that the rows reckon of the streams' rests is the number's own."""
        terms, ends, found = machine.state()
        numbers = [number for part in found for number in part]
        self.assertEqual(gcd(*numbers), 1)
        self.assertGreater([number for number in found[1] if number][0], 0)
        self.assertEqual([type(part) for part in (terms, *terms, ends, *ends, found, *found)],
                         [tuple, tuple, tuple, tuple, bool, bool, tuple, tuple, tuple])
        self.assertEqual([len(part) for part in found], [4, 4])
        # Any rests do, as the rows hold for all: so their product is told by some.
        for rests in ((Fraction(7, 2), Fraction(11, 3)), (Fraction(5), Fraction(-4)), (Fraction(9, 4), Fraction(3))):
            pair = []
            for at in (0, 1):
                number = rests[at]
                for term in reversed(terms[at]):
                    number = term - 1 / number if of[at] == "ceil" else term + 1 / number
                pair.append(told(number))
            number = number_by_rule(rows, pair)
            for term in machine.made():
                left = None if number is None else (term - number if machine.manner() == "ceil" else number - term)
                number = 1 / left if left else None
            if number is not None:
                self.assertEqual(number_by_rule(found, [told(rest) for rest in rests]), number)

    def test_known(self):
        machine = Two(((0, 2, 2, 0), (0, 0, 0, -4)), fed([3, 7]), fed([1], "ceil"))
        self.assertEqual(machine.state(), (((), ()), (False, False), ((0, -1, -1, 0), (0, 0, 0, 2))))
        self.assertEqual((machine.bounds(), machine.parts()), ((None, None), None))
        machine = Two(SUM, fed([3, 7]), fed([1], "ceil"))
        # 3 + 1/p and 1 - 1/q together are (4 p q + q - p) / (p q).
        self.assertEqual(machine.ask(0)[0], "open")
        self.assertEqual(machine.state(), (((3, 7), (1,)), (False, False), ((29, -7, 4, -1), (7, 0, 1, 0))))
        self.assertEqual(machine.bounds(), ((25, 8), (29, 7)))
        machine = Two(SUM, Row([3]), Row([1]))
        self.assertEqual(machine.terms(5), ([4], "end"))
        self.assertEqual(machine.state(), (((3,), (1,)), (True, True), ((1, 0, 0, 0), (0, 1, 1, 0))))

    def test_asking_takes_nothing(self):
        x, y = endless(), Ruled([1], [2])
        machine = Two(PRODUCT, x, y)
        for place in (None, 0, 3):
            if place is not None:
                machine.ask(place)
            asked = (x.asked(), y.asked(), machine.asked())
            for _ in range(2):
                self.assertEqual(machine.state(), machine.state())
                machine.bounds()
                machine.parts()
                machine.depth()
            self.assertEqual((x.asked(), y.asked(), machine.asked()), asked)

    def test_neighbours_and_tails_of_it(self):
        machine = Two(SUM, Row([0, 2]), Row([0, 3]), "near")
        self.assertEqual(neighbours_of(machine, 5), ("told", (4, 5), (1, 1)))
        self.assertEqual(neighbours_of(machine, 6), ("told", (5, 6), (5, 6)))
        whole = Two(SUM, endless(), Ruled([1], [2])).terms(30)[0]
        self.assertEqual(Tail(Two(SUM, endless(), Ruled([1], [2])), 4).terms(20)[0], whole[4:24])
        stream = Ruled([1], [2])
        self.assertEqual(neighbours_of(Two(DIFFERENCE, stream, stream), 9)[0], "open")


class Plain(Asking):
    def test_known(self):
        self.assertEqual(plain_two(SUM, (1, 2), (1, 3), 60), ([0, 1, 5], "end"))
        self.assertEqual(plain_two(SUM, (1, 2), (1, 3), 3), ([0, 1, 5], "more"))
        self.assertEqual(plain_two(SUM, (1, 2), (1, 3), 2, "near"), ([1, -6], "more"))
        self.assertEqual(plain_two(SUM, (1, 2), (1, 3), 3, manner="near"), ([1, -6], "end"))
        self.assertEqual(plain_two(QUOTIENT, (1, 2), (0, 1), 1), ([], "nought"))

    def test_many_of_0_of_60_and_of_61(self):
        self.assertEqual(plain_two(QUOTIENT, (1, 2), (0, 1), 0), ([], "more"))
        self.assertEqual(plain_two(QUOTIENT, (1, 2), (0, 1), 60), ([], "nought"))
        self.assertEqual(plain_two(PRODUCT, (1, 60), (1, 1), 60, "ceil"), ([1] + [2] * 59, "more"))
        self.assertEqual(plain_two(PRODUCT, (1, 59), (1, 1), 60, "ceil"), ([1] + [2] * 58, "end"))
        for many in (61, -1, 10 ** 12):
            self.assert_refused(NoNumber, many, plain_two, SUM, (22, 7), (1, 2), many)

    def test_against_the_rule(self):
        numbers = fractions_to(4, 2)
        for rows, x, y in product(ROWS, numbers[::2], numbers[1::2]):
            for manner, many in zip(MANNERS, (60, 2, 5)):
                right = reckoned(rows, (x, y), manner)
                found = plain_two(rows, x, y, many, manner)
                if right is None:
                    self.assertEqual(found, ([], "nought"))
                else:
                    self.assertEqual(found, (right[:many], "more" if len(right) >= many else "end"))

    def test_refused(self):
        for thing in all_but(is_lowest):
            self.assert_refused(NoFraction, thing, plain_two, SUM, thing, None, None, None)
            self.assert_refused(NoFraction, thing, plain_two, SUM, (1, 2), thing, None, None)
        for thing in all_but(from_to(0, 60)):
            self.assert_refused(NoNumber, thing, plain_two, SUM, (1, 2), (1, 3), thing, "x")
        for thing in all_but(is_manner_word):
            self.assert_refused(NoManner, thing, plain_two, SUM, (1, 2), (1, 3), 0, thing)
        self.assert_new_each_time(lambda many: plain_two(SUM, (1, 2), (1, 3), many)[0], 3)


class Apart(Asking):
    def test_against_the_words(self):
        chance = random.Random(88)
        numbers = fractions_to(4, 2)
        found = {True: 0, False: 0}
        for _ in range(4000):
            rows, (of, other_of, manner) = chance.choice(ROWS), chance.choice(TRIPLES)
            pairs = [tuple(chance.choices(numbers, k=2)) for _ in range(2)]
            terms = [row_by_rule(value(pairs[0][at]), word)[:chance.randint(0, 2)]
                     for at, word in ((0, of), (1, other_of))]
            place = chance.randint(0, 2)
            right = all(begins(pair[at], terms[at], word) for pair in pairs for at, word in ((0, of), (1, other_of)))
            right = right and pairs_apart(rows, pairs, place, manner)
            self.assertIs(shows_pairs_apart(rows, *terms, *pairs, place, manner, of, other_of), right)
            self.assertIs(shows_pairs_apart(rows, *map(tuple, terms), *pairs[::-1], place, manner, of, other_of), right)
            found[right] += 1
        self.assertGreater(min(found.values()), 200)

    def test_places(self):
        one, other = ((1, 2), (1, 3)), ((1, 2), (1, 4))
        self.assertIs(shows_pairs_apart(SUM, [0, 2], [0], one, other, 2), True)
        for place in (0, 1, 3, 999, 1000, -1, True, None, "2"):
            self.assertIs(shows_pairs_apart(SUM, [0, 2], [0], one, other, place), False)
        pairs = ((1, 999), (1, 1)), ((1, 1000), (1, 1))
        self.assertIs(shows_pairs_apart(PRODUCT, [0], [1], *pairs, 999, "ceil"), True)
        pairs = ((1, 1000), (1, 1)), ((1, 1001), (1, 1))
        self.assertIs(shows_pairs_apart(PRODUCT, [0], [1], *pairs, 999, "ceil"), False)
        self.assertIs(shows_pairs_apart(PRODUCT, [0], [1], *pairs, 1000, "ceil"), False)

    def test_where_the_one_has_no_number(self):
        one, other = ((1, 2), (0, 1)), ((1, 2), (1, 3))
        self.assertIs(shows_pairs_apart(QUOTIENT, [0], [0], one, other, 0), True)
        self.assertIs(shows_pairs_apart(QUOTIENT, [0], [0], other, one, 0), True)
        self.assertIs(shows_pairs_apart(QUOTIENT, [0], [0], one, other, 1), False)
        self.assertIs(shows_pairs_apart(QUOTIENT, [0], [0], one, ((1, 3), (0, 1)), 0), False)

    def test_of_any_things(self):
        one, other = ((1, 2), (1, 3)), ((1, 2), (1, 4))
        for thing in any_things():
            if not is_numbers(thing):
                self.assertIs(shows_pairs_apart(SUM, thing, [0], one, other, 2), False)
                self.assertIs(shows_pairs_apart(SUM, [0], thing, one, other, 2), False)
            self.assertIs(shows_pairs_apart(SUM, [0, 2], [0], thing, other, 2), False)
            self.assertIs(shows_pairs_apart(SUM, [0, 2], [0], one, thing, 2), False)
            self.assertIs(shows_pairs_apart(SUM, [0, 2], [0], one, (thing, (1, 4)), 2), thing == (1, 2))
            if thing != 2 or not isinstance(thing, int):
                self.assertIs(shows_pairs_apart(SUM, [0, 2], [0], one, other, thing), False)
        self.assertIs(shows_pairs_apart(SUM, [0, 2], [0], one, list(other), 2), False)
        self.assertIs(shows_pairs_apart(SUM, [0, 2], [0], one, (*other, (1, 4)), 2), False)
        for at in range(3):
            for thing in all_but(is_manner_word):
                words = ["floor"] * at + [thing] + ["x"] * (2 - at)
                self.assert_refused(NoManner, thing, shows_pairs_apart, SUM, None, None, None, None, None, *words)
        self.assert_refused(NoManner, "x", shows_pairs_apart, SUM, [], [], one, other, 0, other_of="x")
