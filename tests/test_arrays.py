"""Tests of [31]: broadcast."""

import itertools
import unittest

from tests.helping import error, number, text, value

from sheetworks.arrays import broadcast

A_ROW = [[1, 2, 3]]
A_COLUMN = [[1], [2], [3]]
AN_ARRAY = [[1, 2, 3], [4, 5, 6], [7, 8, 9]]
NARROW = [[1, 2], [3, 4], [5, 6]]
LOW = [[1, 2, 3], [4, 5, 6]]
LONG_ROW = [[1, 2, 3, 4]]


def pair(x, y):
    """A scalar that tells both that were handed in."""
    return ("text", f"{x[1]},{y[1]}")


def at(told, i, j):
    """The member by the words of the document, or None."""
    rows = told if isinstance(told, list) else [[told]]
    if len(rows) == 1:
        i = 0
    if len(rows[0]) == 1:
        j = 0
    return rows[i][j] if i < len(rows) and j < len(rows[0]) else None


class Broadcast(unittest.TestCase):
    def test_all_shapes(self):
        shapes = (7, A_ROW, A_COLUMN, AN_ARRAY, NARROW, LOW, LONG_ROW)
        for a, b in itertools.product(shapes, repeat=2):
            h = max([len(told) if isinstance(told, list) else 1 for told in (a, b)])
            w = max([len(told[0]) if isinstance(told, list) else 1 for told in (a, b)])
            members = []
            for i, j in itertools.product(range(h), range(w)):
                both = (at(a, i, j), at(b, i, j))
                members.append("#NA" if None in both else text(f"{both[0]}000000,{both[1]}000000"))
            wanted = value([members[k * w:k * w + w] for k in range(h)] if h * w > 1 else members[0])
            self.assertEqual(broadcast(pair, value(a), value(b)), wanted)

    def test_most_members(self):
        column = value([[k] for k in range(16)])
        self.assertEqual(broadcast(pair, column, value([[1, 2, 3, 4]]))[1:3], (16, 4))
        self.assertEqual(broadcast(pair, column, value([[1, 2, 3, 4, 5]])), error("SIZE"))
        for h, w in ((13, 5), (5, 13), (20, 4), (4, 20), (20, 20)):
            down, along = value([[1]] * h), value([[1] * w])
            self.assertEqual(broadcast(pair, down, along), error("SIZE"))
            self.assertEqual(broadcast(pair, along, down), error("SIZE"))
        self.assertEqual(broadcast(pair, value([[1]] * 20), value([[1, 2, 3]]))[1:3], (20, 3))

    def test_too_great_calls_nothing(self):
        def deed(x, y):
            raise AssertionError("called")
        self.assertEqual(broadcast(deed, value([[1]] * 13), value([[1] * 5])), error("SIZE"))

    def test_errors(self):
        def five(x, y):
            self.assertNotIn("error", (x[0], y[0]))
            return number(5)
        div, ref, lack = error("DIV"), error("REF"), error("NA")
        for a, b, wanted in ((div, number(1), div), (number(1), ref, ref), (div, ref, div), (ref, div, ref),
                             (number(1), number(2), number(5)), (("empty",), ("truth", True), number(5))):
            self.assertEqual(broadcast(five, a, b), wanted)
        self.assertEqual(broadcast(five, value([["#DIV", 1, 2]]), value([[1, "#REF", 2]])),
            value([["#DIV", "#REF", 5]]))
        # A missing member goes ahead of an error on the other side.
        self.assertEqual(broadcast(five, value([[1, 2], ["#DIV", "#REF"], [3, "#DIV"]]), value([[1, 1], [1, 1]])),
                         ("array", 3, 2, (number(5), number(5), div, ref, lack, lack)))
        self.assertEqual(broadcast(five, value([[1, 1]]), value([["#DIV", "#REF", "#DIV"]])),
                         ("array", 1, 3, (div, ref, lack)))
        self.assertEqual(broadcast(five, lack, div), lack)

    def test_sequence(self):
        seen = []

        def deed(x, y):
            seen.append((x[1] // 1000000, y[1] // 1000000))
            return x
        broadcast(deed=deed, a=value([[1, 2]]), b=value([[3], [4]]))
        self.assertEqual(seen, [(1, 3), (2, 3), (1, 4), (2, 4)])


if __name__ == "__main__":
    unittest.main()
