"""Tests of the names of [16]."""

import string
import unittest

from sheetworks.library import COUNTS
from sheetworks.names import is_name


class Names(unittest.TestCase):
    def test_names(self):
        for word in ("A", "z", "Q_", "X1", "x_1", "abcdefgh", "A0", "A01", "A21", "A100", "K1", "z9",
                     "A1_", "A1B", "LETS", "TRUES", "SUMS", "LAMBDAS", "J", "AA1"):
            self.assertTrue(is_name(word), word)

    def test_other_texts(self):
        for word in ("", "_A", "1", "1A", "abcdefghi", "A.B", "A B", " A", "A ", "A-B", "A$", "$A",
                     "$A$1", "A$1", "A!", "\u00c4", "A\u00c4", "\u0661", "a\n", "A\u00b2", "A%", "\u0131"):
            self.assertFalse(is_name(word), word)

    def test_words_of_their_own(self):
        for word in ("TRUE", "FALSE", "LET", "LAMBDA", *COUNTS):
            for one in (word, word.lower(), word.title()):
                self.assertFalse(is_name(one), one)

    def test_cells(self):
        for letter in string.ascii_letters:
            for row in range(0, 40):
                is_cell = letter.upper() in "ABCDEFGHIJ" and 1 <= row <= 20
                self.assertIs(is_name(f"{letter}{row}"), not is_cell)


if __name__ == "__main__":
    unittest.main()
