from itertools import product

from termstream.errors import Finished, NoManner, NoPlace, NoRound, NoRow, NoStream, NoTerm, TooMany
from termstream.manners import may_end, row_of
from termstream.ones import One
from termstream.sources import Fed, Row, Ruled, Tail
from termstream.streams import Stream
from tests.search import MANNERS, is_beginning_by_rule, is_row_by_rule, lists_of, row_by_rule, value
from tests.test_streams import endless, fed, same
from tests.things import (
    Asking, all_but, any_things, from_to, is_manner_word, is_numbers, is_stream, is_whole_number,
)

TERMS = (-3, -2, -1, 0, 1, 2, 3)


class Rows(Asking):
    def test_against_the_rule(self):
        for manner in MANNERS:
            for terms in lists_of(TERMS, 3):
                if is_row_by_rule(terms, manner):
                    self.assertEqual(Row(terms, manner).terms(9), (terms, "end"))
                    self.assertEqual(Row(tuple(terms), manner).terms(9), (terms, "end"))
                else:
                    self.assert_refused(NoRow, terms, Row, terms, manner)

    def test_refused(self):
        for manner in MANNERS:
            for thing in any_things():
                if not (is_numbers(thing) and is_row_by_rule(list(thing), manner)):
                    self.assert_refused(NoRow, thing, Row, thing, manner)
        for thing in all_but(is_manner_word):
            for terms in ([3, 7], [3, 0], None):
                self.assert_refused(NoManner, thing, Row, terms, thing)

    def test_floor_where_the_manner_is_left_out(self):
        self.assertEqual(Row([3, 1, 2]).manner(), "floor")
        self.assert_refused(NoRow, (terms := [3, -7]), Row, terms)
        self.assertEqual(Row([3, -7], manner="near").terms(3), ([3, -7], "end"))

    def test_kept_as_a_copy(self):
        terms = [3, 7, 15]
        stream = Row(terms)
        terms[1] = 8
        terms.append(2)
        self.assertEqual(stream.terms(5), ([3, 7, 15], "end"))
        stream.terms(2)[0].append(9)
        stream.made().append(9)
        self.assertEqual(stream.terms(5), ([3, 7, 15], "end"))

    def test_a_hundred_terms_of_twelve_figures(self):
        for manner, sign in (("floor", 1), ("ceil", 1), ("near", 1), ("near", -1)):
            row = [sign * (123456789012 + 7919 * k) for k in range(100)]
            self.assertEqual(Row(row, manner).terms(1000), (row, "end"))

    def test_the_ask_places(self):
        for row in ([5], [3, 7], [3] * 100):
            stream = Row(row)
            self.assertEqual(stream.ask(len(row)), ("end",))
            self.assertEqual(stream.ask(len(row) - 1), ("term", row[-1]))
            self.assertEqual(stream.ask(999), ("end",))
            self.assertEqual(stream.ask(0), ("term", row[0]))


def prefix(terms, again, steps, rounds):
    """The terms and so many rounds."""
    return list(terms) + [term + k * step for k in range(rounds) for term, step in zip(again, steps)]


def is_rule(terms, again, steps, manner):
    """Whether a Ruled may be so, by the words of the document."""
    if any(step and (term > 0) != (step > 0) or (step and not term) for term, step in zip(again, steps)):
        return False
    if manner == "ceil" and set(again) == {2} and set(steps) == {0}:
        return False
    # Between two rounds of at most two terms no other pair is seen later on.
    return is_beginning_by_rule(prefix(terms, again, steps, 4), manner)


class Ruleds(Asking):
    def test_known(self):
        self.assertEqual(endless().terms(9)[0], [2, 1, 2, 1, 1, 4, 1, 1, 6])
        self.assertEqual(Ruled([1], [2]).terms(5), ([1, 2, 2, 2, 2], "more"))
        self.assertEqual(Ruled([0, 1], (3, 4), (1, 0)).terms(8)[0], [0, 1, 3, 4, 4, 4, 5, 4])
        self.assertEqual(Ruled((7, -3), [-4, 5], [-10, 2], "near").terms(8)[0], [7, -3, -4, 5, -14, 7, -24, 9])
        self.assertEqual(Ruled([2], [2], steps=[10 ** 12], manner="ceil").ask(999), ("term", 998 * 10 ** 12 + 2))

    def test_against_the_rule(self):
        for manner in MANNERS:
            for ahead, first in product(([0], [3], [0, 3], [0, 2], [0, -2]), (None, *TERMS)):
                for last, step, other_step in product(TERMS, (-1, 0, 1), (-2, 0, 3)):
                    again = [last] if first is None else [first, last]
                    steps = [step] if first is None else [step, other_step]
                    self.assert_ruled(ahead, again, steps, manner)

    def assert_ruled(self, ahead, again, steps, manner):
        if not is_beginning_by_rule(ahead, manner):
            self.assert_refused(NoRow, ahead, Ruled, ahead, again, steps, manner)
        elif is_rule(ahead, again, steps, manner):
            right = prefix(ahead, again, steps, 20)
            self.assertEqual(Ruled(ahead, again, steps, manner).terms(len(right)), (right, "more"))
            if not any(steps):
                self.assertEqual(Ruled(ahead, again, None, manner).terms(len(right)), (right, "more"))
        else:
            self.assert_refused(NoRound, again, Ruled, ahead, again, steps, manner)

    def test_rounds_of_one_and_of_twenty(self):
        again = [1, *range(5, 24)]
        self.assertEqual(Ruled([3], again).terms(45)[0], [3, *again, *again, 1, 5, 6, 7])
        steps = [0] * 19 + [1]
        self.assertEqual(Ruled([3], again, steps).terms(41)[0], [3, *again, *again[:-1], 24])
        for wrong in ([*again, 1], [], (), [1] * 21):
            self.assert_refused(NoRound, wrong, Ruled, [3], wrong)
        for wrong in (steps[:19], [*steps, 0], [], True):
            self.assert_refused(NoRound, wrong, Ruled, [3], again, wrong)

    def test_rounds_of_twos_in_ceil(self):
        for again in ([2], [2, 2], [2] * 20):
            self.assert_refused(NoRound, again, Ruled, [3], again, None, "ceil")
            self.assert_refused(NoRound, again, Ruled, [3], again, [0] * len(again), "ceil")
            self.assertEqual(Ruled([3], again, None, "near").terms(3)[0], [3, 2, 2])
            self.assertEqual(Ruled([3], again).terms(3)[0], [3, 2, 2])
            steps = [0] * (len(again) - 1) + [1]
            self.assertEqual(Ruled([3], again, steps, "ceil").terms(2)[0], [3, 2])
        self.assertEqual(Ruled([3], [2, 3], None, "ceil").terms(5)[0], [3, 2, 3, 2, 3])
        self.assertEqual(Ruled([3, 2, 2], [3], None, "ceil").terms(5)[0], [3, 2, 2, 3, 3])

    def test_rounds_that_only_just_may_come_in_near(self):
        for ahead, again, steps in (([0], [2], None), ([0], [-2], None), ([0, 3], [-2, -3], None), ([2], [-2], None),
                                    ([-2], [2], None), ([0], [2, 3, -3], None), ([0], [3, -2], [0, -1]),
                                    ([0], [-3, 3, 2], [-1, 0, 0])):
            if is_beginning_by_rule(prefix(ahead, again, steps or [0] * len(again), 3), "near"):
                self.assertEqual(Ruled(ahead, again, steps, "near").asked(), 0)
            else:
                self.assert_refused(NoRound, again, Ruled, ahead, again, steps, "near")
        # What stands at the end of the round and at its begin don't stand side by side ahead of the second one.
        for again in ([3, -2], [-3, 2], [-4, 3, 2], [4, -3, -2]):
            self.assert_refused(NoRound, again, Ruled, [0], again, None, "near")
        for again in ([-3, -2], [3, 2], [-4, 3, -2], [4, -3, 2]):
            self.assertEqual(Ruled([0], again, None, "near").terms(len(again) + 2)[0][-1], again[0])
        for ahead, again in (([0, 2], [-3]), ([0, -2], [3])):
            self.assert_refused(NoRound, again, Ruled, ahead, again, None, "near")

    def test_a_step_of_another_sign(self):
        for again, steps, manner in (([3], [-1], "floor"), ([3, 4], [0, -1], "ceil"), ([-3], [1], "near"),
                                     ([3, -3], [1, 1], "near"), ([10 ** 11], [-1], "floor"), ([0], [1], "floor")):
            self.assert_refused(NoRound, again, Ruled, [1], again, steps, manner)

    def test_refused(self):
        for thing in all_but(is_manner_word):
            for ahead in ([3], None):
                self.assert_refused(NoManner, thing, Ruled, ahead, [3], None, thing)
        for thing in any_things():
            if not (is_numbers(thing) and thing and is_beginning_by_rule(list(thing), "floor")):
                self.assert_refused(NoRow, thing, Ruled, thing, [3])
                self.assert_refused(NoRow, thing, Ruled, thing, None, "steps")
            if not (is_numbers(thing) and 1 <= len(thing) <= 20):
                self.assert_refused(NoRound, thing, Ruled, [3], thing)
                self.assert_refused(NoRound, thing, Ruled, [3], thing, "steps")
            elif min(thing) < 1:
                self.assert_refused(NoRound, thing, Ruled, [3], thing)
            if thing is not None and not (is_numbers(thing) and len(thing) == 2):
                self.assert_refused(NoRound, thing, Ruled, [3], [3, 4], thing)
                self.assert_refused(NoRound, thing, Ruled, [3], [0, -4], thing)

    def test_kept_as_copies(self):
        ahead, again, steps = [3], [1, 2], [0, 5]
        stream = Ruled(ahead, again, steps)
        ahead[0], again[0], steps[1] = 9, 9, 9
        again.append(9)
        self.assertEqual(stream.terms(7)[0], [3, 1, 2, 1, 7, 1, 12])

    def test_places(self):
        stream = Ruled([5, 6], [1, 2, 3])
        self.assertEqual(stream.ask(999), ("term", (1, 2, 3)[997 % 3]))
        self.assertEqual(stream.ask(0), ("term", 5))
        self.assertEqual(stream.asked(), 1000)
        many = 123456789012
        self.assertEqual(Ruled([-many], [many], [many]).terms(4)[0], [-many, many, 2 * many, 3 * many])


class Feds(Asking):
    def test_asked_ahead_amid_and_behind(self):
        stream = Fed()
        self.assertEqual(stream.ask(0), ("open", None, None))
        self.assertIsNone(stream.feed(3))
        self.assertEqual(stream.asked(), 0)
        self.assertEqual(stream.bounds(), (None, None))
        self.assertEqual(stream.ask(4), ("open", (3, 1), (4, 1)))
        stream.feed(7)
        stream.feed(15)
        self.assertEqual(stream.asked(), 1)
        self.assertEqual(stream.ask(1), ("term", 7))
        self.assertIsNone(stream.finish())
        self.assertEqual(stream.asked(), 2)
        self.assertEqual(stream.terms(1000), ([3, 7, 15], "end"))
        self.assertEqual(stream.bounds(), ((333, 106), (333, 106)))

    def test_against_the_rule(self):
        for manner in MANNERS:
            for terms in lists_of(TERMS, 3):
                stream = Fed(manner)
                for at, term in enumerate(terms):
                    if not is_beginning_by_rule(terms[:at + 1], manner):
                        self.assert_refused(NoTerm, term, stream.feed, term)
                        break
                    stream.feed(term)
                else:
                    self.assert_finish(stream, terms, manner)

    def assert_finish(self, stream, terms, manner):
        if is_row_by_rule(terms, manner):
            self.assertIs(may_end(terms, manner), True)
            stream.finish()
            self.assertEqual(stream.terms(5), (terms, "end"))
        else:
            self.assert_refused(NoTerm, terms[-1] if terms else None, stream.finish)
            self.assertEqual(stream.terms(5), (terms, "open"))

    def test_finished_twice_and_fed_behind_it(self):
        stream = fed([3, 7], finished=True)
        for thing in (5, 0, None, [3], "x"):
            self.assert_refused(Finished, thing, stream.feed, thing)
        with self.assertRaises(Finished) as caught:
            stream.finish()
        self.assertIs(type(caught.exception.found), list)
        self.assertEqual(caught.exception.found, [3, 7])
        caught.exception.found.append(9)
        with self.assertRaises(Finished) as caught:
            stream.finish()
        self.assertEqual(caught.exception.found, [3, 7])
        self.assertEqual(stream.terms(9), ([3, 7], "end"))

    def test_finished_where_the_row_may_not_end(self):
        stream = Fed()
        self.assert_refused(NoTerm, None, stream.finish)
        stream.feed(1)
        stream.feed(1)
        self.assert_refused(NoTerm, 1, stream.finish)
        self.assertEqual(stream.terms(3), ([1, 1], "open"))
        stream.feed(2)
        stream.finish()
        self.assertEqual(stream.terms(5), ([1, 1, 2], "end"))
        near = fed([3, 2], "near")
        self.assert_refused(NoTerm, 2, near.finish)

    def test_a_hundred_terms_and_one_more(self):
        for manner in MANNERS:
            row = [123456789012 + 7919 * k for k in range(100)]
            stream = fed(row, manner)
            self.assert_refused(TooMany, 101, stream.feed, 5)
            self.assert_refused(NoTerm, True, stream.feed, True)
            self.assertEqual(stream.terms(1000), (row, "open"))
            stream.finish()
            self.assertEqual(stream.terms(1000), (row, "end"))
            self.assert_refused(Finished, 5, stream.feed, 5)
        stream = fed([1] * 100)
        self.assert_refused(NoTerm, 1, stream.finish)

    def test_refused(self):
        for thing in all_but(is_manner_word):
            self.assert_refused(NoManner, thing, Fed, thing)
        for manner in MANNERS:
            stream = fed([3, 7], manner)
            for thing in any_things():
                if not (is_whole_number(thing) and is_beginning_by_rule([3, 7, thing], manner)):
                    self.assert_refused(NoTerm, thing, stream.feed, thing)
            self.assertEqual(stream.terms(5), ([3, 7], "open"))
            for thing in all_but(is_whole_number):
                self.assert_refused(NoTerm, thing, Fed(manner).feed, thing)
        self.assertEqual(Fed().manner(), "floor")
        self.assertEqual(Fed(manner="near").manner(), "near")


class Tails(Asking):
    def test_of_each_kind_of_stream(self):
        row = [3, 7, 15, 2]
        for make in (lambda: Row(row), lambda: fed(row, finished=True), lambda: same(Row(row)),
                     lambda: Tail(Row([9, *row]), 1), lambda: Tail(same(Row([9, *row])), 1)):
            for place in range(4):
                self.assertEqual(Tail(make(), place).terms(9), (row[place:], "end"))
            # From the place at which the other one ends, and behind it.
            for place in (4, 5, 999):
                self.assertEqual(Tail(make(), place).ask(0), ("nought",))
                self.assertEqual(Tail(make(), place).terms(3), ([], "nought"))
        right = endless().terms(60)[0]
        for place in (0, 1, 2, 50):
            self.assertEqual(Tail(endless(), place).terms(10), (right[place:place + 10], "more"))

    def test_it_tells_what_the_rest_was(self):
        for manner in MANNERS:
            for fraction in ((355, 113), (-22, 7), (2, 5), (3, 7), (-13, 30)):
                row = row_by_rule(value(fraction), manner)
                for place in range(len(row)):
                    tail = Tail(Row(row, manner), place)
                    self.assertEqual(tail.terms(100), (row[place:], "end"))
                    self.assertEqual(row_of(tail.bounds()[0], manner), row[place:])
                    self.assertEqual(tail.manner(), manner)

    def test_it_asks_for_just_what_it_makes(self):
        stream = endless()
        inner = Tail(stream, 3)
        outer = Tail(inner, 4)
        self.assertEqual((stream.asked(), inner.asked(), outer.asked()), (0, 0, 0))
        outer.ask(0)
        self.assertEqual((stream.asked(), inner.asked(), outer.asked()), (8, 5, 1))
        outer.ask(2)
        self.assertEqual((stream.asked(), inner.asked(), outer.asked()), (10, 7, 3))
        inner.ask(20)
        self.assertEqual((stream.asked(), inner.asked(), outer.asked()), (24, 21, 3))

    def test_of_an_open_fed(self):
        stream = fed([3, 7])
        tails = [Tail(stream, place) for place in (0, 1, 2, 3)]
        self.assertEqual([tail.terms(9) for tail in tails], [([3, 7], "open"), ([7], "open"), ([], "open"), ([], "open")])
        self.assertEqual(tails[1].ask(1), ("open", (7, 1), (8, 1)))
        self.assertEqual(tails[2].ask(0), ("open", None, None))
        stream.feed(2)
        self.assertEqual([tail.terms(9)[0] for tail in tails], [[3, 7, 2], [7, 2], [2], []])
        stream.finish()
        self.assertEqual([tail.terms(9) for tail in tails], [
            ([3, 7, 2], "end"), ([7, 2], "end"), ([2], "end"), ([], "nought")])

    def test_of_an_open_tail(self):
        stream = fed([3, 7])
        inner = Tail(Tail(stream, 1), 0)
        outer = Tail(inner, 2)
        self.assertEqual(outer.ask(0), ("open", None, None))
        self.assertEqual((stream.asked(), inner.asked()), (2, 1))
        stream.feed(15)
        self.assertEqual(outer.ask(0), ("open", None, None))
        stream.feed(4)
        self.assertEqual(outer.ask(0), ("term", 4))
        stream.finish()
        self.assertEqual(outer.terms(3), ([4], "end"))
        self.assertEqual((inner.terms(9), Tail(outer, 1).ask(0)), (([7, 15, 4], "end"), ("nought",)))

    def test_an_open_place_is_asked_once_each_time(self):
        # A machine that is asked once more would take one place more.
        for make in (lambda stream: Tail(stream, 1), lambda stream: Tail(Tail(Tail(stream, 0), 1), 0)):
            stream = Ruled([1], [2])
            machine = One(((1, 0), (0, 10 ** 9)), stream, most=1)
            tail = make(machine)
            for taken in range(2, 9):
                self.assertEqual(tail.ask(0)[0], "open")
                self.assertEqual(stream.asked(), taken)

    def test_two_of_one_stream_by_turns(self):
        right = endless().terms(40)[0]
        stream = endless()
        one, other = Tail(stream, 2), Tail(stream, 5)
        for place in range(15):
            self.assertEqual(one.ask(place), ("term", right[2 + place]))
            self.assertEqual(other.ask(place), ("term", right[5 + place]))
        self.assertEqual(stream.asked(), 20)

    def test_many_within_one_another(self):
        stream = endless()
        tail = stream
        for _ in range(900):
            tail = Tail(tail, 1)
        self.assertEqual(tail.terms(3), (Tail(endless(), 900).terms(3)[0], "more"))
        self.assertEqual(stream.asked(), 903)
        ended = Row([3, 7])
        for _ in range(900):
            ended = Tail(ended, 0)
        self.assertEqual(ended.terms(5), ([3, 7], "end"))

    def test_of_nought(self):
        nought = One(((1, 0), (1, -3)), Row([3]))
        for place in (0, 1, 7):
            self.assertEqual(Tail(nought, place).ask(0), ("nought",))
        self.assertEqual(Tail(Tail(Row([3]), 1), 0).terms(5), ([], "nought"))

    def test_refused(self):
        for thing in all_but(is_stream):
            self.assert_refused(NoStream, thing, Tail, thing, 0)
            self.assert_refused(NoStream, thing, Tail, thing, -1)
        for stream in (Row([3]), endless(), Fed(), Tail(Row([3]), 1), same(Row([3]))):
            for thing in all_but(from_to(0, 999)):
                self.assert_refused(NoPlace, thing, Tail, stream, thing)
            self.assertEqual(stream.asked(), 0)
            self.assertTrue(issubclass(Tail, Stream))
