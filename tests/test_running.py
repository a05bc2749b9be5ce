from termstream.errors import NoPlace, NoSurd
from termstream.running import Running
from termstream.streams import Stream
from termstream.surds import Surd
from tests.search import row_by_rule, value
from tests.test_surds import LARGE, SMALL
from tests.things import Asking, all_but, from_to


class Runnings(Asking):
    def test_against_the_surds_own_terms(self):
        for p, d, q in SMALL[::5] + LARGE:
            surd = Surd(p, d, q)
            stream = Running(surd)
            number = surd.fraction()
            self.assertEqual((stream.manner(), stream.depth(), stream.asked()), ("floor", 0, 0))
            if number is None:
                self.assertEqual(stream.terms(90), (surd.terms(90), "more"))
            else:
                row = row_by_rule(value(number), "floor")
                self.assertEqual(stream.terms(1000), (row, "end"))
                self.assertEqual(stream.bounds(), (number, number))
                self.assertEqual(stream.ask(999), ("end",))

    def test_known(self):
        self.assertEqual(Running(Surd(1, 5, 2)).terms(1000), ([1] * 1000, "more"))
        self.assertEqual(Running(Surd(0, 19)).terms(8), ([4, 2, 1, 3, 1, 2, 8, 2], "more"))
        self.assertEqual(Running(Surd(1, 4, 2)).terms(9), ([1, 2], "end"))
        self.assertEqual(Running(Surd(0, 2)).ask(999), ("term", 2))
        stream = Running(Surd(0, 2))
        stream.ask(1)
        self.assertEqual(stream.bounds(), ((4, 3), (3, 2)))

    def test_the_surd_stays(self):
        surd = Surd(0, 7)
        one, other = Running(surd), Running(surd)
        one.ask(5)
        self.assertEqual(surd.told(), (0, 7, 1))
        self.assertEqual(other.terms(6)[0], one.terms(6)[0])

    def test_refused(self):
        for thing in all_but(lambda thing: isinstance(thing, Surd)):
            self.assert_refused(NoSurd, thing, Running, thing)
        stream = Running(Surd(0, 2))
        for thing in all_but(from_to(0, 999)):
            self.assert_refused(NoPlace, thing, stream.ask, thing)
        self.assertEqual(stream.asked(), 0)
        self.assertIsInstance(stream, Stream)
