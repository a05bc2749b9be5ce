from fractions import Fraction

from termstream.errors import NoNumber, NoStream
from termstream.nearest import neighbours
from termstream.ones import One
from termstream.settling import neighbours_of
from termstream.sources import Fed, Row, Ruled, Tail
from tests.search import MANNERS, begin_with, fractions_to, row_by_rule, value
from tests.test_streams import endless, fed, same
from tests.things import Asking, all_but, from_to, is_stream

SMALL = fractions_to(12, 4)
HUGE = 10 ** 12


class Neighbours(Asking):
    def test_against_a_search(self):
        for manner in MANNERS:
            for fraction in fractions_to(9, 2):
                row = row_by_rule(value(fraction), manner)
                for bound in (1, 2, 5, 12):
                    stream = Row(row, manner)
                    self.assertEqual(neighbours_of(stream, bound), ("told", *neighbours(fraction, bound)))
                    self.assert_no_more_than_needed(stream, row, bound)

    def assert_no_more_than_needed(self, stream, row, bound):
        """It has asked as long as a number of such a bottom begins so, and no longer."""
        many, manner = stream.asked(), stream.manner()
        low, high = stream.bounds()
        pool = [part for part in SMALL if part[1] <= bound]
        if low != high:
            self.assertFalse(begin_with(row[:many], pool, manner))
        if many > 1:
            before = row[:many if low == high else many - 1]
            self.assertTrue(begin_with(before, pool, manner), (row, manner, bound, many))

    def test_it_asks_from_what_is_made_on(self):
        stream = endless()
        self.assertEqual(neighbours_of(stream, 5), ("told", (8, 3), (11, 4)))
        made = stream.asked()
        self.assertEqual(neighbours_of(stream, 5), ("told", (8, 3), (11, 4)))
        self.assertEqual(stream.asked(), made)
        stream.ask(50)
        self.assertEqual(neighbours_of(stream, 5), ("told", (8, 3), (11, 4)))
        self.assertEqual(stream.asked(), 51)

    def test_of_streams_of_each_kind(self):
        right = ("told", (3, 1), (22, 7))
        for stream in (Row([3, 7, 16]), fed([3, 7, 16]), fed([3, 7, 16], finished=True), Tail(Row([5, 3, 7, 16]), 1),
                       same(Row([3, 7, 16])), same(Row([3, 7, 16], "near"), "ceil"), same(same(Row([3, 7, 16])))):
            self.assertEqual(neighbours_of(stream, 7), right)

    def test_one_that_ends(self):
        stream = Row([3, 7])
        self.assertEqual(neighbours_of(stream, 7), ("told", (22, 7), (22, 7)))
        self.assertEqual(stream.bounds(), ((22, 7), (22, 7)))
        self.assertEqual(neighbours_of(Row([3]), 1), ("told", (3, 1), (3, 1)))
        self.assertEqual(neighbours_of(Row([3, 7]), 6), ("told", (3, 1), (19, 6)))

    def test_one_that_is_open(self):
        stream = Fed()
        self.assertEqual(neighbours_of(stream, 7), ("open", None, None))
        stream.feed(3)
        self.assertEqual(neighbours_of(stream, 7), ("open", (3, 1), (4, 1)))
        self.assertEqual(stream.asked(), 1)
        stream.feed(7)
        self.assertEqual(neighbours_of(stream, 7), ("open", (25, 8), (22, 7)))
        self.assertEqual(neighbours_of(stream, 6), ("told", (3, 1), (19, 6)))
        stream.feed(15)
        self.assertEqual(neighbours_of(stream, 7), ("told", (3, 1), (22, 7)))
        self.assertEqual(neighbours_of(stream, 8), ("told", (25, 8), (22, 7)))

    def test_machines_tell_their_own_bounds(self):
        stream = fed([3, 7])
        machine = One(((1, 0), (0, 1000)), stream)
        self.assertEqual(neighbours_of(machine, HUGE), ("open", (1, 320), (11, 3500)))
        self.assertEqual(machine.asked(), 1)

    def test_nought(self):
        for stream in (Tail(Row([3]), 1), One(((1, 0), (1, -3)), Row([3]))):
            for _ in range(2):
                self.assertEqual(neighbours_of(stream, 7), ("nought",))

    def test_terms_that_do_not_settle(self):
        # A row of twos comes near to its number by small steps.
        stream = Ruled([1], [2] * 19 + [3], None, "ceil")
        for asked in (64, 128):
            found = neighbours_of(stream, HUGE)
            self.assertEqual(found, ("open", *stream.bounds()))
            self.assertEqual(stream.asked(), asked)
        for _ in range(20):
            if found[0] == "open":
                found = neighbours_of(stream, HUGE)
        self.assertEqual(found[0], "told")
        self.assertLess(stream.asked(), 256)

    def test_sixty_four_terms_and_their_end(self):
        for many, asked, word in ((63, 63, "told"), (64, 64, "open"), (65, 64, "open")):
            stream = Row([1] + [2] * (many - 1), "ceil")
            self.assertEqual(neighbours_of(stream, 100)[0], word)
            self.assertEqual(stream.asked(), asked)
            self.assertEqual(neighbours_of(stream, 100), ("told", (1, many), (1, many)))

    def test_large_bounds(self):
        for manner in MANNERS:
            stream = Ruled([-123456789012], [3, 4, 5], [1, 0, 2], manner)
            word, low, high = neighbours_of(stream, HUGE)
            self.assertEqual(word, "told")
            self.assertEqual(high[0] * low[1] - low[0] * high[1], 1)
            self.assertGreater(low[1] + high[1], HUGE)
            self.assertTrue(max(low[1], high[1]) <= HUGE)
            bounds = [Fraction(*part) for part in stream.bounds()]
            self.assertTrue(value(low) <= bounds[0] < bounds[1] <= value(high))

    def test_refused(self):
        for thing in all_but(is_stream):
            self.assert_refused(NoStream, thing, neighbours_of, thing, 7)
            self.assert_refused(NoStream, thing, neighbours_of, thing, 0)
        stream = endless()
        for thing in all_but(from_to(1, HUGE)):
            self.assert_refused(NoNumber, thing, neighbours_of, stream, thing)
        self.assertEqual(stream.asked(), 0)
        self.assertEqual(neighbours_of(Row([3, 7]), HUGE), ("told", (22, 7), (22, 7)))
