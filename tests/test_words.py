import unittest

from termstream.words import is_name, is_number, is_whole, number_of
from tests.things import any_things, is_whole_number

THIRTY = "123456789012345678901234567890"


class Kinds(unittest.TestCase):
    def test_numbers_of_any_thing(self):
        for thing in any_things():
            self.assertIs(is_number(thing), is_whole_number(thing))

    def test_true_and_false_are_no_numbers(self):
        self.assertIs(is_number(True), False)
        self.assertIs(is_number(False), False)
        self.assertIs(is_whole(True, 0, 2), False)
        self.assertIs(is_whole(False, -1, 1), False)

    def test_whole_from_low_to_high_both_counted(self):
        for low in range(-3, 4):
            for high in range(-3, 4):
                for number in range(-5, 6):
                    self.assertIs(is_whole(number, low, high), low <= number and number <= high)

    def test_whole_of_any_thing(self):
        for thing in any_things():
            right = is_whole_number(thing) and -10 ** 29 <= thing <= 10 ** 29
            self.assertIs(is_whole(thing, -10 ** 29, 10 ** 29), right)
            self.assertIs(is_whole(thing, 1, 0), False)

    def test_whole_numbers_of_thirty_figures(self):
        number = int(THIRTY)
        self.assertIs(is_whole(number, number, number), True)
        self.assertIs(is_whole(number, number + 1, number + 2), False)
        self.assertIs(is_whole(-number, -number - 2, -number - 1), False)

    def test_names_have_one_to_six_small_letters(self):
        for name in ("a", "z", "az", "abcdef", "zzzzzz"):
            self.assertIs(is_name(name), True)
        for thing in ("", "abcdefg", "A", "aB", "a1", "1", "a b", " a", "a ", "a\n", "a-", "`", "{"):
            self.assertIs(is_name(thing), False)

    def test_names_of_any_thing(self):
        names = [thing for thing in any_things() if is_name(thing)]
        self.assertEqual(names, ["a", "z", "abcdef", "floor", "ceil", "near", "told"])
        for thing in any_things():
            self.assertIs(type(is_name(thing)), bool)

    def test_lists_of_letters_are_no_names(self):
        self.assertIs(is_name(["a"]), False)
        self.assertIs(is_name(("a", "b")), False)
        self.assertIs(is_name({"a": 1}), False)


class Texts(unittest.TestCase):
    def test_numbers_are_read_as_they_are_written(self):
        numbers = [*range(-120, 121), int(THIRTY), -int(THIRTY), 10 ** 30 - 1, 1 - 10 ** 30]
        for number in numbers:
            found = number_of(str(number))
            self.assertEqual(found, number)
            self.assertIs(type(found), int)

    def test_other_signs_write_no_number(self):
        for text in ("", "-", "+7", " 7", "7 ", "07", "-07", "00", "-0", "--7", "7-", "1 2", "7\n",
                     "1_000", "7.0", "1e3", "0x7", "a", "-a", "7/1", "3;7", "\u0663", "\u00b2"):
            with self.subTest(text=text):
                self.assertIsNone(number_of(text))

    def test_at_most_thirty_figures(self):
        self.assertEqual(number_of("-" + THIRTY), -int(THIRTY))
        for sign in ("", "-"):
            self.assertIsNone(number_of(sign + THIRTY + "1"))
            self.assertIsNone(number_of(sign + "1" * 3000))

    def test_things_that_are_no_texts_write_none(self):
        for thing in any_things():
            if not isinstance(thing, str):
                self.assertIsNone(number_of(thing))
        self.assertIsNone(number_of(["7"]))

    def test_any_texts(self):
        found = {thing: number_of(thing) for thing in any_things() if isinstance(thing, str)}
        told = {text: number for text, number in found.items() if number is not None}
        self.assertEqual(told, {"0": 0, "-7": -7})
