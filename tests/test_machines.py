from fractions import Fraction
from itertools import product
from math import gcd

from termstream.errors import NoNumber, NoPlace
from termstream.machines import Machine
from termstream.ones import One
from termstream.sources import Fed, Row, Ruled, Tail
from tests.search import MANNERS, fractions_to, is_rest, row_by_rule, value, with_rest
from tests.test_ones import PLAIN, ROWS, TURNED, are_apart, asked_on, multiplied, number_by_rule, reckoned
from tests.test_streams import NEXT, RESTS, endless, fed, same
from tests.things import Asking, all_but, from_to, is_lowest

POOLS = {of: [(part, row_by_rule(value(part), of)) for part in fractions_to(24, 5)] for of in MANNERS}
NUMBERS = [(17, 5), (-8, 13), (2, 1), (7, 2), (3, 7), (-9, 4)]
PAIRS = list(product(MANNERS, MANNERS))
SLOW = ((1, 0), (0, 10 ** 9))


def thing_at(row, place):
    """What stands at the place of a row, or of none."""
    if row is None:
        return ("nought",)
    return ("term", row[place]) if place < len(row) else ("end",)


def beginning(taken, ended, of):
    """All numbers of small bottoms whose rows are, or begin with, what is taken."""
    many = len(taken)
    return [part for part, row in POOLS[of] if (row if ended else row[:many]) == list(taken)]


def fed_on(rows, row, of, manner):
    """A machine of the row, fed term by term and finished: each time it is told with its stream."""
    stream = Fed(of)
    machine = One(rows, stream, manner, 1)
    yield machine
    for term in row:
        stream.feed(term)
        yield machine
    stream.finish()
    yield machine


def all_machines():
    for rows, number, (of, manner) in product(ROWS, NUMBERS, PAIRS):
        yield rows, row_by_rule(value(number), of), of, manner


class Settled(Asking):
    def test_given_as_soon_as_it_is_settled_and_never_earlier(self):
        for rows, row, of, manner in all_machines():
            right = reckoned(rows, number_of(row, of), manner)
            for machine in fed_on(rows, row, of, manner):
                while machine.ask(machine.asked())[0] == "term":
                    pass
                taken, ended = machine.state()[0][0], machine.state()[1][0]
                place = machine.asked()
                found = machine.ask(place)
                self.assert_given(machine, right, rows, beginning(taken, ended, of) if taken else [])
                if found[0] == "open" and taken:
                    one, other = machine.parts()
                    self.assertTrue(is_lowest(one) and is_lowest(other))
                    self.assertTrue(are_apart(rows, taken, one, other, place, manner, of))
                else:
                    self.assertIsNone(machine.parts())
            self.assertEqual(machine.terms(1000), ([], "nought") if right is None else (right, "end"))

    def assert_given(self, machine, right, rows, numbers):
        """All numbers that begin so have what is given."""
        given = machine.made()
        self.assertEqual(given, (right or [])[:len(given)])
        for number in numbers:
            if given:
                self.assertEqual(reckoned(rows, number, machine.manner())[:len(given)], given)

    def test_nothing_is_taken_that_is_not_needed(self):
        for rows, row, of, manner in all_machines():
            needed = []
            for machine in fed_on(rows, row, of, manner):
                while machine.ask(len(needed))[0] not in ("open", "nought") and len(needed) < 40:
                    needed.append(things_taken(machine))
            whole = One(rows, Row(row, of), manner, 64)
            for place, many in enumerate(needed):
                whole.ask(place)
                self.assertEqual(things_taken(whole), many)

    def test_the_first_term_is_taken_ahead(self):
        for manner in MANNERS:
            stream = Row([3, 7])
            machine = One(PLAIN, stream, manner)
            self.assertEqual(stream.asked(), 0)
            machine.ask(0)
            self.assertGreaterEqual(stream.asked(), 1)

    def test_an_end_that_is_not_taken_yet(self):
        stream = Row([3])
        machine = same(stream)
        self.assertEqual(machine.ask(0), ("term", 3))
        self.assertEqual(machine.state()[1], (False,))
        self.assertEqual(machine.bounds(), ((3, 1), (4, 1)))
        self.assertEqual(machine.ask(1), ("end",))
        self.assertEqual(machine.state()[1], (True,))
        self.assertEqual(machine.bounds(), ((3, 1), (3, 1)))

    def test_a_bottom_of_nought(self):
        # At the number itself, at a bound of the numbers, which is in or isn't, and between the two.
        for rows, terms, told in ((((1, 0), (1, -3)), [3], "nought"), (((1, 0), (1, -3)), [3, 2], "end"),
                                  (((1, 0), (1, -4)), [3, 2], "end"), (((1, 0), (2, -7)), [3, 2], "nought"),
                                  (((1, 0), (7, -22)), [3, 7], "nought"), (((1, 0), (7, -22)), [3, 6], "end")):
            stream = fed(terms)
            machine = One(rows, stream)
            word = machine.ask(0)[0]
            if told == "nought":
                self.assertEqual((word, machine.bounds()), ("open", (None, None)))
                one, other = machine.parts()
                self.assertTrue(are_apart(rows, terms, one, other, 0, "floor", "floor"))
            stream.finish()
            self.assertEqual(machine.terms(1000)[1], told)
            self.assertEqual(One(rows, Row(terms)).terms(1000)[1], told)
            if told == "nought":
                self.assertEqual((machine.bounds(), machine.parts()), ((None, None), None))

    def test_whole_at_an_end_of_what_is_taken(self):
        # Of x from 3, which is in, to 4, which isn't, y is from 4, which isn't, to 5, which is.
        rows = ((-1, 8), (0, 1))
        for manner in MANNERS:
            self.assertEqual(One(rows, fed([3]), manner).ask(0)[0], "term" if manner == "ceil" else "open")
        self.assertEqual(One(PLAIN, fed([3])).ask(0), ("term", 3))
        self.assertEqual(One(PLAIN, fed([3]), "ceil").ask(0)[0], "open")
        self.assertEqual(One(PLAIN, fed([4], "ceil")).ask(0)[0], "open")
        self.assertEqual(One(PLAIN, fed([4], "ceil"), "ceil").ask(0), ("term", 4))
        self.assertEqual(One(((-1, 0), (0, 1)), fed([3]), "ceil").ask(0), ("term", -3))
        self.assertEqual(One(PLAIN, fed([3], "near"), "near").ask(0), ("term", 3))
        self.assertEqual(One(((-1, 0), (0, 1)), fed([3], "near"), "near").ask(0)[0], "open")


def number_of(row, of):
    """The fraction that the row writes, by the rule."""
    found = with_rest(row[:-1], Fraction(row[-1]), of)
    return (found.numerator, found.denominator)


def things_taken(machine):
    """How many terms and ends are taken."""
    terms, ends, _ = machine.state()
    return sum(map(len, terms)) + sum(ends)


class Most(Asking):
    def test_so_many_places_for_one_place(self):
        # The first term settles the first place; behind it no term of this number settles any.
        for most in (1, 2, 7, 40, 64):
            stream = Ruled([1], [2])
            machine = One(SLOW, stream, most=most)
            self.assertEqual(machine.ask(0), ("term", 0))
            self.assertEqual(stream.asked(), 1)
            for times in range(1, 6):
                self.assertEqual(machine.ask(1)[0], "open" if times * most < things_needed() else "term")
                self.assertEqual(stream.asked(), 1 + min(times * most, things_needed()))

    def test_forty_where_nothing_is_told(self):
        # One over a number that is above 0 and below one over ever more has no bound.
        for most, handed in ((40, {}), (39, {"most": 39}), (64, {"most": 64})):
            stream = Row([1] + [2] * 97 + [3], "ceil")
            machine = One(TURNED, stream, **handed)
            self.assertEqual(machine.ask(0), ("open", None, None))
            self.assertEqual(stream.asked(), 1 + most)

    def test_the_first_place_is_not_counted(self):
        # The first term doesn't settle it, and the one behind it does.
        stream = Ruled([1], [3])
        machine = One(((2, 0), (0, 1)), stream, most=1)
        self.assertEqual(machine.ask(0), ("term", 2))
        self.assertEqual(stream.asked(), 2)

    def test_an_end_is_counted(self):
        machine = One(SLOW, Row([5, 2]), most=1)
        self.assertEqual(machine.ask(1)[0], "open")
        self.assertEqual(machine.state()[:2], (((5, 2),), (False,)))
        self.assertEqual(machine.ask(1), ("term", 181818181))
        self.assertEqual(machine.state()[:2], (((5, 2),), (True,)))

    def test_asked_again_until_it_is_settled(self):
        for most in (1, 3, 64):
            machine = One(SLOW, Ruled([1], [2]), most=most)
            asks = 1
            while machine.ask(1)[0] == "open":
                asks += 1
            self.assertEqual(asks, -(-(things_needed()) // most))
            self.assertEqual(machine.ask(1), ("term", 707106781))
            self.assertEqual(machine.terms(9)[0][:2], [0, 707106781])

    def test_one_ask_of_many_places(self):
        machine = same(Ruled([1], [2]), "near")
        self.assertEqual(machine.terms(1000)[1], "more")
        # Of each of the 400 places it may take two; one isn't enough for the first one.
        narrow = One(PLAIN, Ruled([1], [2]), "near", 2)
        self.assertEqual(narrow.terms(400), (machine.terms(400)[0], "more"))
        self.assertEqual(One(PLAIN, Ruled([1], [2]), "near", 1).terms(400)[1], "open")

    def test_open_at_once(self):
        stream = Fed()
        inner = One(SLOW, Ruled([1], [2]), most=1)
        machine = One(PLAIN, inner, most=64)
        self.assertEqual(machine.ask(0), ("term", 0))
        taken = things_taken(inner)
        self.assertEqual(machine.ask(1)[0], "open")
        self.assertEqual(things_taken(inner), taken + 1)
        other = One(PLAIN, stream, most=64)
        for _ in range(3):
            self.assertEqual(other.ask(0), ("open", None, None))
        stream.feed(3)
        self.assertEqual(other.ask(1), ("open", (3, 1), (4, 1)))

    def test_any_thing_as_most(self):
        stream = endless()
        for thing in all_but(from_to(1, 64)):
            self.assert_refused(NoNumber, thing, One, PLAIN, stream, "floor", thing)
        for most in (1, 64):
            self.assertEqual(One(PLAIN, endless(), "floor", most).terms(9), endless().terms(9))


def things_needed():
    """How many terms behind the first one settle the first term of 10 ** 9 / root 2, by the rule."""
    terms = [1]
    while True:
        ends = [with_rest(terms, rest, "floor") for rest in (Fraction(1) + NEXT ** 4, 1 / NEXT ** 4)]
        if len({10 ** 9 / part // 1 for part in ends}) == 1:
            return len(terms) - 1
        terms.append(2)


class Noughts(Asking):
    def test_of_a_stream_that_tells_nought(self):
        for nought in (Tail(Row([3]), 1), One(((1, 0), (1, -3)), Row([3]))):
            for rows in ROWS:
                machine = One(rows, nought, "near")
                self.assertEqual(machine.ask(0), ("nought",))
                self.assertEqual(machine.terms(5), ([], "nought"))
                self.assertEqual((machine.bounds(), machine.parts(), machine.asked()), ((None, None), None, 0))
                self.assertEqual(machine.state()[:2], (((),), (False,)))
                self.assertEqual(same(machine).ask(999), ("nought",))

    def test_one_over_nought(self):
        self.assertEqual(One(TURNED, Row([0])).terms(3), ([], "nought"))
        self.assertEqual(same(One(TURNED, Row([0]))).terms(3), ([], "nought"))
        self.assertEqual(One(TURNED, Row([0])).terms(0), ([], "more"))


class Shared(Asking):
    def test_two_machines_by_turns(self):
        stream = endless()
        one, other = One(((2, 0), (0, 1)), stream), One(TURNED, stream, "near")
        right, other_right = One(((2, 0), (0, 1)), endless()), One(TURNED, endless(), "near")
        for place in (0, 5, 2, 9, 20):
            self.assertEqual(one.ask(place), right.ask(place))
            self.assertEqual(other.ask(place), other_right.ask(place))
        self.assertEqual(one.state(), right.state())
        self.assertEqual(other.state(), other_right.state())

    def test_what_the_stream_made_ahead_changes_nothing(self):
        stream = endless()
        stream.ask(50)
        machine = One(((2, 0), (0, 1)), stream, "near")
        right = One(((2, 0), (0, 1)), endless(), "near")
        for place in (3, 0, 7):
            self.assertEqual(machine.ask(place), right.ask(place))
            self.assertEqual(machine.state(), right.state())
        self.assertEqual(stream.asked(), 51)

    def test_a_machine_of_a_tail_and_its_stream(self):
        stream = endless()
        machine = same(Tail(stream, 3))
        self.assertEqual(machine.terms(9)[0], endless().terms(12)[0][3:])


class Fedding(Asking):
    def test_asked_ahead_of_and_behind_each_feeding(self):
        for rows, (of, manner) in product(ROWS, PAIRS):
            for number in NUMBERS[:3]:
                row = row_by_rule(value(number), of)
                right = reckoned(rows, number, manner)
                given = []
                for machine in fed_on(rows, row, of, manner):
                    for _ in range(2):
                        terms, word = machine.terms(1000)
                        self.assertEqual(terms[:len(given)], given)
                        given = terms
                self.assertEqual((given, word), ([], "nought") if right is None else (right, "end"))


class States(Asking):
    def test_against_the_rows(self):
        for rows, row, of, manner in all_machines():
            for machine in fed_on(rows, row, of, manner):
                for _ in range(3):
                    self.assert_state(machine, rows, of, manner)
                    machine.ask(machine.asked())

    def assert_state(self, machine, rows, of, manner):
        terms, ends, found = machine.state()
        right = rows
        for term in terms[0]:
            right = multiplied(right, ((term, -1 if of == "ceil" else 1), (1, 0)))
        for term in machine.made():
            right = multiplied(((0, 1), (-1, term) if manner == "ceil" else (1, -term)), right)
        numbers = [number for part in found for number in part]
        self.assertEqual(gcd(*numbers), 1)
        first = [number for number in found[1] if number]
        self.assertGreater(first[0], 0)
        flat = [number for part in right for number in part]
        # They are the same rows, but for one divisor, which may be below nought.
        common = gcd(*flat)
        self.assertIn([number * common for number in numbers], (flat, [-number for number in flat]))
        self.assertEqual([type(part) for part in (terms, terms[0], ends, ends[0], found, *found)],
                         [tuple, tuple, tuple, bool, tuple, tuple, tuple])

    def test_known(self):
        machine = One(((2, 4), (-6, 8)), fed([3, 7], finished=True))
        self.assertEqual(machine.state(), (((),), (False,), ((-1, -2), (3, -4))))
        self.assertEqual(One(((2, 4), (0, -8)), endless()).state()[2], ((-1, -2), (0, 4)))
        self.assertEqual(One(((0, -5), (10, 0)), endless()).state()[2], ((0, -1), (2, 0)))
        self.assertEqual(One(((3, 0), (0, 1)), endless()).state()[2], ((3, 0), (0, 1)))
        machine = same(fed([3, 7], finished=True))
        self.assertEqual(machine.ask(0), ("term", 3))
        self.assertEqual(machine.state(), (((3,),), (False,), PLAIN))
        self.assertEqual(machine.ask(1), ("term", 7))
        self.assertEqual(machine.state(), (((3, 7),), (False,), PLAIN))
        self.assertEqual(machine.ask(2), ("end",))
        self.assertEqual(machine.state(), (((3, 7),), (True,), PLAIN))
        double = One(((2, 0), (0, 1)), fed([3, 7]))
        self.assertEqual(double.ask(0), ("term", 6))
        self.assertEqual(double.state(), (((3, 7),), (False,), ((7, 1), (2, 0))))

    def test_asking_takes_nothing(self):
        stream = endless()
        machine = One(((2, 0), (0, 1)), stream)
        for place in (None, 0, 3):
            if place is not None:
                machine.ask(place)
            asked, made = stream.asked(), machine.asked()
            for _ in range(2):
                self.assertEqual(machine.state(), machine.state())
                machine.bounds()
                machine.parts()
                machine.depth()
            self.assertEqual((stream.asked(), machine.asked()), (asked, made))
        for thing in all_but(from_to(0, 999)):
            self.assert_refused(NoPlace, thing, machine.ask, thing)


class Bounds(Asking):
    def test_against_many_numbers(self):
        for rows, row, of, manner in all_machines():
            for machine in fed_on(rows, row, of, manner):
                machine.ask(machine.asked())
                terms, ends, _ = machine.state()
                if ends[0]:
                    number = number_by_rule(rows, number_of(row, of))
                    right = None if number is None else (number.numerator, number.denominator)
                    self.assertEqual(machine.bounds(), (right, right))
                elif terms[0]:
                    self.assert_bounds(machine.bounds(), rows, list(terms[0]), of)
                else:
                    self.assertEqual(machine.bounds(), (None, None))

    def assert_bounds(self, bounds, rows, terms, of):
        """They bound what comes of many numbers, and of some next to all ends."""
        numbers = [with_rest(terms, rest, of) for rest in RESTS if is_rest(terms, rest, of)]
        (a, b), (c, d) = rows
        bottoms = [c * number + d for number in numbers]
        if min(bottoms) <= 0 <= max(bottoms):
            self.assertEqual(bounds, (None, None))
            return
        told = [(a * number + b) / bottom for number, bottom in zip(numbers, bottoms)]
        if max(map(abs, told)) > 10 ** 5:
            self.assertEqual(bounds, (None, None))
            return
        low, high = map(value, bounds)
        near = Fraction(1, 10 ** 5)
        self.assertTrue(low <= min(told) < low + near and high - near < max(told) <= high, (rows, terms, of, bounds))

    def test_ahead_of_terms_that_are_made(self):
        machine = One(((1, 0), (0, 2)), fed([3, 7]))
        self.assertEqual(machine.bounds(), (None, None))
        self.assertEqual(machine.ask(0), ("term", 1))
        # 3 to 4 is taken, and no more; the half of it is bounded so.
        self.assertEqual(machine.bounds(), ((3, 2), (2, 1)))
        self.assertEqual(machine.ask(1), ("term", 1))
        self.assertEqual(machine.bounds(), ((25, 16), (11, 7)))

    def test_they_only_narrow(self):
        for rows, (of, manner) in product(ROWS, PAIRS):
            machine = One(rows, Ruled([3], [3, 5], [1, 0], of), manner, 1)
            last = None
            for _ in range(60):
                low, high = machine.bounds()
                if last is not None:
                    self.assertTrue(last[0] <= value(low) and value(high) <= last[1])
                if low is not None:
                    last = (value(low), value(high))
                machine.ask(machine.asked())
            self.assertIsNotNone(last)

    def test_open_with_its_bounds(self):
        stream = fed([3])
        machine = One(((3, 0), (0, 1)), stream)
        self.assertEqual(machine.ask(0), ("open", (9, 1), (12, 1)))
        stream.feed(7)
        self.assertEqual(machine.ask(5), ("open", (75, 8), (66, 7)))
        self.assertEqual(machine.terms(5), ([9, 2], "open"))


class Parts(Asking):
    def test_none_where_it_is_settled(self):
        machine = One(PLAIN, Row([3, 7, 15]))
        self.assertIsNone(machine.parts())
        machine.ask(0)
        # Of 3 alone the next term isn't settled.
        one, other = machine.parts()
        self.assertTrue(are_apart(PLAIN, [3], one, other, 1, "floor", "floor"))
        taken = One(((1, 0), (0, 100)), Row([3, 7, 15]))
        self.assertEqual(taken.ask(0), ("term", 0))
        # Here what is taken for place 1 settles place 2 as well.
        for place in range(1, 8):
            taken.ask(place)
            settled = taken.parts() is None
            before = things_taken(taken)
            taken.ask(place + 1)
            self.assertIs(settled, things_taken(taken) == before)
        self.assertIsNone(taken.parts())

    def test_near_an_end_of_large_terms(self):
        many = 123456789012
        for rows, (of, manner) in product(ROWS, PAIRS):
            terms = [many, many, -many if of == "near" else many]
            machine = One(rows, fed(terms, of), manner)
            while machine.asked() < 30 and machine.ask(machine.asked())[0] == "term":
                pass
            if machine.asked() == 30:
                # In `ceil` such terms make rows of many twos.
                self.assertEqual(manner, "ceil")
                continue
            one, other = machine.parts()
            self.assertTrue(is_lowest(one) and is_lowest(other))
            self.assertTrue(are_apart(rows, terms, one, other, machine.asked(), manner, of))

    def test_kinds(self):
        machine = same(fed([3]))
        machine.ask(1)
        found = machine.parts()
        self.assertEqual([type(part) for part in (found, *found)], [tuple] * 3)
        self.assertEqual(found, machine.parts())
        self.assertIsInstance(machine, Machine)


class Deep(Asking):
    def test_four_deep_of_large_rows(self):
        rows = ((123456789012, -987654321098), (-345678901234, 456789012345))
        terms = [999999999999 - 7 * k for k in range(100)]
        whole, stream = PLAIN, Row(terms)
        for depth in range(1, 5):
            whole, stream = multiplied(rows, whole), One(rows, stream, "near" if depth % 2 else "floor", 64)
        number = Row(terms)
        number.ask(100)
        exact = number_by_rule(whole, number.bounds()[0])
        self.assertEqual(asked_on(stream, 40), (row_by_rule(exact, stream.manner())[:40], "more"))

    def test_four_deep_of_a_fed(self):
        stream = Fed("near")
        deep = stream
        for manner in ("ceil", "near", "floor", "ceil"):
            deep = One(((0, 1), (1, 1)), deep, manner)
        row = row_by_rule(Fraction(355, 113), "near")
        for term in row:
            self.assertEqual(deep.terms(1000)[1], "open")
            stream.feed(term)
        stream.finish()
        whole = PLAIN
        for _ in range(4):
            whole = multiplied(((0, 1), (1, 1)), whole)
        self.assertEqual(asked_on(deep, 1000), (reckoned(whole, (355, 113), "ceil"), "end"))
