"""Tests of the signs of [1]: capital form, figures and letters."""

import unittest

from sheetworks.signs import LETTERS, capital, is_figure, is_letter, small


class Capital(unittest.TestCase):
    def test_letters(self):
        self.assertEqual(capital("abcdefghijklmnopqrstuvwxyz"), "ABCDEFGHIJKLMNOPQRSTUVWXYZ")
        self.assertEqual(capital("Sheet_1 aZ"), "SHEET_1 AZ")
        self.assertEqual(capital(""), "")

    def test_other_signs_stay(self):
        printable = "".join([chr(k) for k in range(32, 127) if not 97 <= k <= 122])
        self.assertEqual(capital(printable), printable)

    def test_letters_of_other_scripts_stay(self):
        for text in ("\u00df", "\u00e9", "\u017f", "\u0131", "\ufb01", "\u03b1"):
            self.assertEqual(capital(text), text)
            self.assertEqual(capital("a" + text), "A" + text)


class Small(unittest.TestCase):
    def test_small(self):
        self.assertEqual(small("ABCDEFGHIJKLMNOPQRSTUVWXYZ"), "abcdefghijklmnopqrstuvwxyz")
        others = "".join([chr(k) for k in range(32, 127) if not 65 <= k <= 90])
        self.assertEqual(small(others), others)
        self.assertEqual((small(""), small("A\u00c4")), ("", "a\u00c4"))


class Kinds(unittest.TestCase):
    FIGURES = "0123456789"
    CAPITALS = "ABCDEFGHIJKLMNOPQRSTUVWXYZ"

    def test_printable_signs(self):
        for sign in map(chr, range(32, 127)):
            self.assertIs(is_figure(sign), sign in self.FIGURES, sign)
            self.assertIs(is_letter(sign), sign in self.CAPITALS + self.CAPITALS.lower(), sign)

    def test_no_sign(self):
        self.assertIs(is_figure(""), False)
        self.assertIs(is_letter(""), False)

    def test_other_scripts(self):
        for sign in ("\u00e9", "\u03b1", "\u0663", "\u00b2"):
            self.assertIs(is_figure(sign), False)
            self.assertIs(is_letter(sign), False)

    def test_letters(self):
        self.assertEqual(LETTERS, self.CAPITALS)


if __name__ == "__main__":
    unittest.main()
