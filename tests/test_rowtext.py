from termstream.errors import NoLine, NoRow
from termstream.rows import floor_row
from termstream.rowtext import read_row, row_text
from tests.search import fractions_to
from tests.things import Asking, is_legal_floor

THIRTY = 123456789012345678901234567890


class RowTexts(Asking):
    def test_texts(self):
        for row, text in (([3, 7, 15], "3;7,15"), ([-2], "-2"), ([0], "0"), ([1], "1"), ([0, 2], "0;2"),
                          ([-4, 1, 6], "-4;1,6"), ([-THIRTY, 1, THIRTY], f"-{THIRTY};1,{THIRTY}")):
            self.assertEqual(row_text(row), text)
            self.assertEqual(row_text(tuple(row)), text)
            self.assertEqual(read_row(text), row)

    def test_what_is_written_is_read(self):
        rows = [floor_row(fraction) for fraction in fractions_to(9)]
        rows.append([123456789012 + 7919 * k for k in range(100)])
        for row in rows:
            found = read_row(row_text(row))
            self.assertEqual(found, row)
            self.assertIs(type(found), list)

    def test_terms_of_thirty_figures_and_of_thirty_one(self):
        nines = "9" * 30
        self.assertEqual(read_row(f"{nines};{nines}"), [10 ** 30 - 1, 10 ** 30 - 1])
        for text in (nines + "9", f"3;{nines}9", f"3;7,{nines}9", f"3;{nines}9,7", f"-{nines}9;7"):
            self.assert_refused(NoLine, text, read_row, text)
        self.assertEqual(row_text([10 ** 40, 10 ** 3999]), f"1{'0' * 40};1{'0' * 3999}")

    def test_other_texts_are_refused(self):
        for text in ("", ";", ",", "3;", ";7", "3,7", "3;7;15", "3;7,", "3;,7", "3;7,,15", "3,7;15", "3; 7",
                     "3 ;7", " 3", "3;7, 15", "3;7 ", "3;7\n", "3;07", "03;7", "+3;7", "3;+7", "-0", "-0;7",
                     "3;-0", "3:7", "3;7.15", "3;7/15", "a", "3;a", "[3, 7]", "None", "3;1", "3;7,1", "3;0",
                     "3;0,7", "3;-7", "3;7,-15", ";" * 3000, "3;" + "," * 2998):
            with self.subTest(text=text[:40]):
                self.assert_refused(NoLine, text, read_row, text)

    def test_of_any_thing(self):
        self.assert_all_refused(NoRow, is_legal_floor, row_text)
        right = ("0", "-7", "-3;7,15")
        self.assert_all_refused(NoLine, lambda thing: isinstance(thing, str) and thing in right, read_row)

    def test_told_anew_and_nothing_changed(self):
        self.assert_new_each_time(read_row, "3;7,15")
        row = [3, 7, 15]
        row_text(row)
        self.assertEqual(row, [3, 7, 15])
