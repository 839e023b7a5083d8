"""Points 1 and 32: rows written as texts and read back."""

import itertools
import random
import unittest

from samples import Case, GREAT, long_rows, row_by_looking, short_rows
from unlikerow.errors import NoRow
from unlikerow.notes import read_row, show_row


class Show(Case):
    def test_word_for_word(self):
        for row, text in (([], "-"), ([0], "0"), ([3, -1, 3], "3 -1 3"), ([-1], "-1"), ([10, 0, -20], "10 0 -20"),
                          ([GREAT, -GREAT], "100000000000000000000 -100000000000000000000"), ([0, 0], "0 0"),
                          ([GREAT - 1, 1 - GREAT], "99999999999999999999 -99999999999999999999")):
            told = show_row(row)
            self.assertEqual(told, text)
            self.assertIs(type(told), str)

    def test_read_back(self):
        for row in list(short_rows()) + long_rows():
            self.assertEqual(show_row(row), " ".join(f"{number:d}" for number in row) or "-")
            self.assertEqual(read_row(show_row(row)), row)


class Read(Case):
    def assert_no_row(self, text):
        self.assert_refused(NoRow, read_row, text)

    def test_word_for_word(self):
        for text, row in (("-", []), ("0", [0]), ("3 -1 3", [3, -1, 3]), ("-1", [-1]), ("10 0 -20", [10, 0, -20]),
                          ("100000000000000000000 -100000000000000000000", [GREAT, -GREAT]), ("7 7 7", [7, 7, 7])):
            told = read_row(text)
            self.assertEqual(told, row)
            self.assert_list_of_whole(told)

    def test_thirty_figures(self):
        for figures in ("9" * 30, "1" + "0" * 29, "123456789012345678901234567890"):
            number = int(figures)
            self.assertEqual(read_row(figures), [number])
            self.assertEqual(read_row("-" + figures), [-number])
            self.assertEqual(read_row(f"0 {figures} -{figures} 5"), [0, number, -number, 5])
            for more in ("1", "0", "9"):
                for text in (figures + more, "-" + figures + more, f"0 {figures}{more}", f"{figures}{more} 0",
                             f"1 -{figures}{more} 2"):
                    self.assert_no_row(text)
        for figures in range(1, 31):
            self.assertEqual(read_row("7" * figures), [int("7" * figures)])
        for figures in (31, 32, 60, 5000):
            self.assert_no_row("7" * figures)
            self.assert_no_row("-" + "7" * figures)

    def test_blanks(self):
        for text in ("", " ", "  ", " 1", "1 ", "1  2", "1 2 ", " 1 2", "1   2", "- ", " -", "-  ", "1 - 2", "1\t2"):
            self.assert_no_row(text)

    def test_line_feeds(self):
        for text in ("\n", "1\n", "\n1", "1\n2", "1 \n2", "1\n 2", "-\n", "\n-", "1 2\n", "-1\n", "-\n1", "1 2\n\n"):
            self.assert_no_row(text)

    def test_signs_and_noughts(self):
        for text in ("+1", "1 +2", "+0", "+", "-0", "1 -0", "-0 1", "--1", "1 --2", "-+1", "+-1", "00", "01", "1 00",
                     "007", "-01", "1 -02", "1-", "1-2", "- 1", "1 -", "- -", "- 1 2", "--", "-1-", "000",
                     "-00", "0-"):
            self.assert_no_row(text)

    def test_other_signs(self):
        for text in ("a", "1 a", "a 1", "1a", "0x1", "1e3", "1.0", "1,2", "1_000", "[1]", "[]", "(1)", "1;2", "None",
                     "ok", "1/2", "~", "!", "'1'", '"1"', "1 2 x", "row 1", "l", "O", "1\\n2", "-a", "_", "1_0"):
            self.assert_no_row(text)
        for sign in map(chr, range(32, 127)):
            for text in (sign, "1" + sign, sign + "1", "1" + sign + "2", "1 " + sign, "1 " + sign + " 2"):
                self.assert_as_by_looking(text)

    def assert_as_by_looking(self, text):
        row = row_by_looking(text)
        if row is None:
            self.assert_no_row(text)
        else:
            self.assertEqual(read_row(text), row)
            self.assertEqual(show_row(row), text)

    def test_every_short_text(self):
        for length in range(6):
            for signs in itertools.product("01- \n", repeat=length):
                self.assert_as_by_looking("".join(signs))
        for signs in itertools.product("05-+ a", repeat=4):
            self.assert_as_by_looking("".join(signs))

    def test_texts_near_a_rows_text(self):
        source = random.Random(101)
        signs = "0123456789-+ \na~."
        for row in list(short_rows(3)) + long_rows():
            text = show_row(row)
            for step in range(20):
                place = source.randrange(len(text) + 1)
                for near in (text[:place] + source.choice(signs) + text[place:], text[:place] + text[place + 1:],
                             text[:place] + source.choice(signs) + text[place + 1:]):
                    self.assert_as_by_looking(near)

    def test_long_texts(self):
        self.assertEqual(read_row(" ".join(["0"] * 3000)), [0] * 3000)
        self.assert_no_row(" " * 6000)
        self.assert_no_row("-" * 6000)
        self.assert_no_row("\n" * 6000)
        self.assert_no_row("1 " * 3000)


class AskersOwn(Case):
    def test_of_the_row(self):
        for row in list(short_rows(3)) + long_rows():
            self.assert_askers_own(show_row, row)

    def test_a_told_list_may_be_spoilt(self):
        for text in ("-", "3 -1 3", "0"):
            right = row_by_looking(text)
            told = read_row(text)
            told.append("spoilt")
            told[0] = None
            self.assertEqual(read_row(text), right)


if __name__ == "__main__":
    unittest.main()
