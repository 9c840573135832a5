"""Tests of the capital form of [1]."""

import unittest

from sheetworks.signs import capital


class Capital(unittest.TestCase):
    def test_letters(self):
        self.assertEqual(capital("abcdefghijklmnopqrstuvwxyz"), "ABCDEFGHIJKLMNOPQRSTUVWXYZ")
        self.assertEqual(capital("Sheet_1 aZ"), "SHEET_1 AZ")
        self.assertEqual(capital(""), "")

    def test_other_signs_stay(self):
        printable = "".join([chr(k) for k in range(32, 127) if not 97 <= k <= 122])
        self.assertEqual(capital(printable), printable)

    def test_letters_of_other_scripts_stay(self):
        for text in ("\u00df", "\u00e9", "\u017f", "\u0131", "\ufb01", "\u03b1"):
            self.assertEqual(capital(text), text)
            self.assertEqual(capital("a" + text), "A" + text)


if __name__ == "__main__":
    unittest.main()
