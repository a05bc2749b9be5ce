import unittest

from termstream import errors
from tests.things import any_things

UNDER_TERM_ERROR = (
    "NoNumber", "NoName", "NoFraction", "NoManner", "NoRow", "NoTerm", "NoCone", "NoRows",
    "NoStream", "NoRound", "NoSurd", "NoBase", "NoBounds", "NoLine", "NoText", "Nought",
    "Flat", "Doubled", "TooMany", "Finished",
)
UNDER_UNKNOWN = ("NotInNet", "NoPlace")
UNDER_LOST = ("NoBack", "NoneThere")
FIELDS = {"NoText": "line", "TooMany": "many"}


class Bases(unittest.TestCase):
    def test_bases_stand_straight_under_pythons_own(self):
        self.assertEqual(errors.TermError.__bases__, (ValueError,))
        self.assertEqual(errors.Unknown.__bases__, (KeyError,))
        self.assertEqual(errors.Lost.__bases__, (LookupError,))

    def test_bases_tell_their_text(self):
        for text in ("", "no such thing", "two\nlines"):
            self.assertEqual(str(errors.TermError(text)), text)
            self.assertEqual(str(errors.Lost(text)), text)
            self.assertEqual(errors.Unknown(text).args, (text,))

    def test_bases_are_made_of_one_text(self):
        for base in (errors.TermError, errors.Unknown, errors.Lost):
            with self.assertRaises(TypeError):
                base()
            with self.assertRaises(TypeError):
                base("one", "other")


class Refusals(unittest.TestCase):
    def assert_straight_under(self, base, names):
        for name in names:
            with self.subTest(name=name):
                self.assertEqual(getattr(errors, name).__bases__, (base,))
                self.assertEqual(getattr(errors, name).__module__, "termstream.errors")

    def test_each_stands_straight_under_its_base(self):
        self.assert_straight_under(errors.TermError, UNDER_TERM_ERROR)
        self.assert_straight_under(errors.Unknown, UNDER_UNKNOWN)
        self.assert_straight_under(errors.Lost, UNDER_LOST)

    def test_none_stands_under_another_one(self):
        names = UNDER_TERM_ERROR + UNDER_UNKNOWN + UNDER_LOST
        classes = [getattr(errors, name) for name in names]
        self.assertEqual(len(set(classes)), 24)
        for one in classes:
            for other in classes:
                self.assertEqual(issubclass(one, other), one is other)

    def test_each_holds_the_very_thing_as_its_field(self):
        for name in UNDER_TERM_ERROR + UNDER_UNKNOWN + UNDER_LOST:
            if name == "NoBack":
                continue
            field = FIELDS.get(name, "found")
            for thing in any_things():
                refusal = getattr(errors, name)(thing)
                self.assertIs(getattr(refusal, field), thing)
                self.assertEqual(list(vars(refusal)), [field])

    def test_no_back_is_made_of_nothing(self):
        self.assertEqual(vars(errors.NoBack()), {})
        with self.assertRaises(TypeError):
            errors.NoBack("found")

    def test_each_can_be_caught_by_its_base_and_pythons_own(self):
        with self.assertRaises(ValueError):
            raise errors.NoRow([3])
        with self.assertRaises(KeyError):
            raise errors.NoPlace(1000)
        with self.assertRaises(LookupError):
            raise errors.NoBack()

    def test_a_huge_thing_does_not_hinder_the_text_of_a_refusal(self):
        self.assertIs(type(str(errors.NoNumber(10 ** 5000))), str)
