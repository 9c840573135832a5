"""Tests of [45]: the words of the library and their numbers of arguments."""

import unittest

from sheetworks.library import COUNTS

# The words as [47] to [58] tell them, each with the numbers in brackets behind it.
TOLD = """
    ABS 1, SIGN 1, INT 1, TRUNC 1, ROUND 2, MOD 2, QUOTIENT 2, POWER 2, SQRT 1, GCD 2, LCM 2,
    SUM 1 16, PRODUCT 1 16, MIN 1 16, MAX 1 16, AVERAGE 1 16, MEDIAN 1 16, COUNT 1 16, COUNTA 1 16,
    COUNTBLANK 1, LARGE 2, SMALL 2, RANK 2, SUMPRODUCT 1 4,
    COUNTIF 2, SUMIF 2 3,
    IF 2 3, IFS 2 16, SWITCH 3 16, CHOOSE 2 16, AND 1 16, OR 1 16, XOR 1 16, NOT 1, IFERROR 2, IFNA 2,
    ISBLANK 1, ISNUMBER 1, ISTEXT 1, ISLOGICAL 1, ISERROR 1, ISNA 1, ERRNUMBER 1, ISREF 1, NA 0,
    ROW 1, COLUMN 1, ROWS 1, COLUMNS 1,
    LEN 1, LEFT 1 2, RIGHT 1 2, MID 3, FIND 2 3, SUBSTITUTE 3 4, REPLACE 4, REPT 2, UPPER 1, LOWER 1,
    TRIM 1, EXACT 2, VALUE 1, CODE 1,
    CONCAT 1 16, TEXTJOIN 3 16, TEXTSPLIT 2 3,
    INDEX 2 3, MATCH 2 3,
    XLOOKUP 3 4, VLOOKUP 3 4, OFFSET 3 5, INDIRECT 1,
    SEQUENCE 1 4, TRANSPOSE 1, SORT 1 3, SORTBY 2 3, UNIQUE 1, FILTER 2 3, TAKE 2 3, DROP 2 3,
    VSTACK 1 8, HSTACK 1 8, CHOOSEROWS 2 8, CHOOSECOLS 2 8, EXPAND 3 4, TOCOL 1, WRAPROWS 2, MMULT 2,
    MUNIT 1,
    MAP 2 5, REDUCE 3, SCAN 3, MAKEARRAY 3, BYROW 2, BYCOL 2
"""


def told():
    counts = {}
    for entry in TOLD.split(","):
        word, *numbers = entry.split()
        counts[word] = (int(numbers[0]), int(numbers[-1]))
    return counts


class Counts(unittest.TestCase):
    def test_each_word(self):
        for word, numbers in told().items():
            self.assertEqual(COUNTS[word], numbers, word)

    def test_no_other_word(self):
        self.assertEqual(sorted(COUNTS), sorted(told()))
        self.assertEqual(len(COUNTS), 95)

    def test_words_that_are_none(self):
        for word in ("LET", "LAMBDA", "TRUE", "FALSE", "sum", "NOW", "PI", ""):
            self.assertNotIn(word, COUNTS)

    def test_kinds(self):
        self.assertIs(COUNTS.__class__, dict)
        for word, numbers in COUNTS.items():
            self.assertEqual((word.__class__, numbers.__class__), (str, tuple), word)
            self.assertEqual([number.__class__ for number in numbers], [int, int], word)
            self.assertLessEqual(numbers[0], numbers[1], word)


if __name__ == "__main__":
    unittest.main()
