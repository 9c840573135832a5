"""Tests of [63] to [66]: clearing, copying, cutting, filling, sorting."""

import random
import unittest

from sheetworks.book import Book
from sheetworks.errors import BadPlace, BlockCut, WorkError
from sheetworks.moves import carried, shifted
from sheetworks.parsing import read_formula
from sheetworks.states import saved
from sheetworks.values import order_key
from sheetworks.writing import write_formula
from tests.drawing import Drawer
from tests.test_book import Case, book_of, number


def texts(book, sheet=0):
    """The cells of a sheet that are not empty, by their words."""
    found = {}
    for row in range(20):
        for column in range(10):
            if book.text(sheet, row, column) != "":
                found["ABCDEFGHIJ"[column] + str(row + 1)] = book.text(sheet, row, column)
    return found


def contents(book):
    """What stands at each place: a scalar, or (tree, height, width)."""
    found = {}
    for sheet, (key, _) in enumerate(book.sheets()):
        for row in range(20):
            for column in range(10):
                block = book.block_of(sheet, row, column) or (row, column, 1, 1)
                text = book.text(sheet, row, column)
                if text.startswith("=") and len(text) > 1:
                    if block[:2] == (row, column):
                        found[(key, row, column)] = (read_formula(text, book.sheets()), *block[2:])
                elif text != "":
                    found[(key, row, column)] = book.value(sheet, row, column)
    return found


def told(book, standing):
    """The texts of what stands there, by cells."""
    found = {}
    for (key, row, column), one in standing.items():
        if isinstance(one[0], tuple):
            for i in range(one[1]):
                for j in range(one[2]):
                    found[(key, row + i, column + j)] = write_formula(one[0], book.sheets())
        else:
            found[(key, row, column)] = one
    return found


class Copying(Case):
    def test_cells(self):
        book = book_of(("A1", "1"), ("A2", "'2"), ("B1", "=A1+$A1+A$1+$A$1+MAIN!A1"), ("B2", "=J20"), ("D5", "9"),
            ("C4", "8"))
        book.copy(0, 0, 0, 2, 2, 0, 3, 2)
        self.assertEqual(texts(book), {"A1": "1", "A2": "'2", "B1": "=A1+$A1+A$1+$A$1+MAIN!A1", "B2": "=J20",
            "C4": "1", "C5": "'2", "D4": "=C4+$A4+C$1+$A$1+MAIN!C4", "D5": "=#REF!"})
        book.copy(0, 5, 5, 2, 2, 0, 3, 2)
        self.assertEqual(sorted(texts(book)), ["A1", "A2", "B1", "B2"])

    def test_to_other_sheets(self):
        book = book_of(("A1", "=B1+MAIN!B1"))
        book.add_sheet(1, "P")
        book.copy(0, 0, 0, 1, 1, 1, 1, 1)
        self.assertEqual(texts(book, 1), {"B2": "=C2+MAIN!C2"})
        self.assertEqual(texts(book, 0), {"A1": "=B1+MAIN!B1"})

    def test_onto_itself_and_over(self):
        book = book_of(("A1", "1"), ("B1", "=A1"), ("C1", "3"))
        state = saved(book)
        book.copy(0, 0, 0, 1, 3, 0, 0, 0)
        self.assertEqual((saved(book), book.anew(), book.changed(), book.undo_depth()), (state, (), (), 4))
        book.copy(0, 0, 0, 1, 3, 0, 0, 1)
        self.assertEqual(texts(book), {"A1": "1", "B1": "1", "C1": "=B1", "D1": "3"})
        book.copy(0, 0, 1, 1, 3, 0, 0, 0)
        self.assertEqual(texts(book), {"A1": "1", "B1": "=A1", "C1": "3", "D1": "3"})

    def test_blocks_copied(self):
        book = Book()
        book.put_block(0, 0, 0, 2, 2, "=E1:F2")
        self.check_refused(book, "copy", (0, 0, 0, 3, 3, 0, 1, 1), (BlockCut, 0, 0, 0))
        self.check_refused(book, "copy", (0, 0, 0, 1, 2, 0, 5, 5), (BlockCut, 0, 0, 0))
        self.check_refused(book, "copy", (0, 4, 4, 1, 1, 0, 1, 1), (BlockCut, 0, 0, 0))
        book.copy(0, 0, 0, 2, 2, 0, 0, 0)
        book.copy(0, 0, 0, 3, 3, 0, 5, 5)
        self.assertEqual((book.block_of(0, 6, 6), book.text(0, 6, 6), book.block_of(0, 0, 0)),
            ((5, 5, 2, 2), "=#REF!", (0, 0, 2, 2)))
        book.copy(0, 9, 0, 2, 2, 0, 0, 0)
        self.assertIsNone(book.block_of(0, 0, 0))
        book.put_block(0, 0, 0, 1, 2, "=1")
        book.put_block(0, 0, 4, 1, 2, "=2")
        self.check_refused(book, "copy", (0, 0, 1, 1, 1, 0, 0, 5), (BlockCut, 0, 0, 0))
        self.check_refused(book, "copy", (0, 2, 1, 1, 1, 0, 0, 5), (BlockCut, 0, 0, 4))

    def test_places(self):
        book = book_of(("A1", "1"))
        book.put_block(0, 0, 4, 1, 2, "=1")
        for word in ("copy", "cut"):
            for target, wanted in (((1, 0, 0), 5), ((-1, 99, 99), 5), ((0, -1, 0), 6), ((0, 20, 0), 6),
                ((0, 19, 0), 6), ((0, 0, -1), 7), ((0, 0, 10), 7), ((0, 0, 9), 7), ((0, 19, 9), 6), ((0, 20, 10), 6),
                ((0, 18, 9), 7)):
                self.check_refused(book, word, (0, 0, 0, 2, 2, *target), (BadPlace, wanted))
            self.check_refused(book, word, (0, 0, 0, 0, 2, 1, 0, 0), (BadPlace, 3))
            self.check_refused(book, word, (1, 0, 0, 1, 1, 1, 0, 0), (BadPlace, 0))
            self.check_refused(book, word, (0, 0, 4, 1, 1, 0, 20, 0), (BadPlace, 6))
            self.check_refused(book, word, (0, 0, 4, 1, 1, 0, 0, 0), (BlockCut, 0, 0, 4))
        book.copy(0, 0, 0, 2, 2, 0, 18, 8)
        book.cut(0, 0, 0, 2, 2, 0, 18, 8)


class Filling(Case):
    def test_down(self):
        book = book_of(("A1", "1"), ("B1", "=A1+A$1"), ("A2", "7"), ("B3", "8"), ("C2", "9"), ("C4", "5"))
        book.fill_down(0, 0, 0, 3, 3)
        self.assertEqual(texts(book), {"A1": "1", "A2": "1", "A3": "1", "B1": "=A1+A$1", "B2": "=A2+A$1",
            "B3": "=A3+A$1", "C4": "5"})

    def test_right(self):
        book = book_of(("A1", "1"), ("A2", "=B1+$B1"), ("B1", "7"), ("C2", "8"), ("D1", "5"))
        book.fill_right(0, 0, 0, 2, 3)
        self.assertEqual(texts(book), {"A1": "1", "B1": "1", "C1": "1", "A2": "=B1+$B1", "B2": "=C1+$B1",
            "C2": "=D1+$B1", "D1": "5"})

    def test_one_line(self):
        book = book_of(("A1", "1"), ("B2", "2"))
        state = saved(book)
        book.fill_down(0, 0, 0, 1, 10)
        book.fill_right(0, 0, 0, 20, 1)
        self.assertEqual((saved(book), book.undo_depth()), (state, 4))

    def test_blocks(self):
        book = Book()
        book.put_block(0, 2, 2, 2, 2, "=1")
        book.put_block(0, 2, 6, 1, 2, "=1")
        for word in ("fill_down", "fill_right"):
            self.check_refused(book, word, (0, 3, 3, 1, 1), (BlockCut, 0, 2, 2))
            self.check_refused(book, word, (0, 0, 0, 20, 10), (BlockCut, 0, 2, 2))
            self.check_refused(book, word, (0, 2, 7, 1, 1), (BlockCut, 0, 2, 6))
            self.check_refused(book, word, (0, 2, 4, 1, 6), (BlockCut, 0, 2, 6))
            getattr(book, word)(0, 4, 0, 16, 10)


class Cutting(Case):
    def test_references_follow(self):
        book = book_of(("A1", "1"), ("B1", "=A1+C1"), ("D1", "=A1+B1"), ("E1", "=SUM(A1:B1)"), ("F1", "=SUM(A1:C1)"),
            ("G1", "=F5"), ("H1", "=1:1"), ("F5", "9"))
        book.define("N", "=MAIN!$A$1:$B$1")
        book.define("M", "=MAIN!$F$5")
        book.cut(0, 0, 0, 1, 2, 0, 4, 5)
        self.assertEqual(texts(book), {"F5": "1", "G5": "=F5+C1", "D1": "=F5+G5", "E1": "=SUM(F5:G5)",
            "F1": "=SUM(A1:C1)", "G1": "=#REF!", "H1": "=1:1"})
        self.assertEqual((book.definition("N"), book.definition("M")), ("=MAIN!$F$5:$G$5", "=#REF!"))

    def test_to_another_sheet(self):
        book = book_of(("A1", "1"), ("B1", "=A1+C1+MAIN!A1"), ("D1", "=A1"))
        book.add_sheet(0, "P")
        book.put(0, 4, 4, "=MAIN!B1")
        book.put(0, 0, 9, "=C3")
        book.cut(1, 0, 0, 1, 2, 0, 2, 2)
        self.assertEqual(texts(book, 0), {"C3": "1", "D3": "=C3+MAIN!C1+P!C3", "E5": "=P!D3", "J1": "=#REF!"})
        self.assertEqual(texts(book, 1), {"D1": "=P!C3"})

    def test_there_and_back(self):
        book = book_of(("A1", "1"), ("A2", "=A1+C1"), ("C1", "=A2"), ("D9", "=A1:B2"))
        state = saved(book)
        book.cut(0, 0, 0, 2, 2, 0, 9, 4)
        self.assertNotEqual(saved(book), state)
        book.cut(0, 9, 4, 2, 2, 0, 0, 0)
        self.assertEqual(saved(book), state)

    def test_onto_itself(self):
        book = book_of(("A1", "1"), ("A2", "=A1+C1"), ("C1", "=A2"))
        book.put_block(0, 4, 4, 2, 2, "=A1:B2")
        state = saved(book)
        for area in ((0, 0, 3, 3), (4, 4, 2, 2), (0, 0, 20, 10)):
            book.cut(0, *area, 0, *area[:2])
            self.assertEqual((saved(book), book.anew(), book.changed()), (state, (), ()))
        self.assertEqual(book.undo_depth(), 7)

    def test_over_one_another(self):
        book = book_of(("A1", "1"), ("B1", "=A1"), ("C1", "=B1"), ("D1", "=C1"))
        book.cut(0, 0, 0, 1, 3, 0, 0, 1)
        self.assertEqual(texts(book), {"B1": "1", "C1": "=B1", "D1": "=C1"})
        book.cut(0, 0, 1, 1, 3, 0, 0, 0)
        self.assertEqual(texts(book), {"A1": "1", "B1": "=A1", "C1": "=B1"})

    def test_blocks(self):
        book = Book()
        book.put_block(0, 0, 0, 2, 2, "=E1:F2")
        book.put_block(0, 0, 4, 2, 2, "=1")
        self.check_refused(book, "cut", (0, 0, 0, 1, 2, 0, 9, 0), (BlockCut, 0, 0, 0))
        self.check_refused(book, "cut", (0, 9, 0, 1, 2, 0, 0, 5), (BlockCut, 0, 0, 4))
        # A block that lies in the source may be cut by the target.
        book.cut(0, 0, 0, 2, 2, 0, 1, 1)
        self.assertEqual((book.block_of(0, 2, 2), book.text(0, 1, 1)), ((1, 1, 2, 2), "=E1:F2"))
        self.check_refused(book, "cut", (0, 1, 1, 2, 4, 0, 1, 2), (BlockCut, 0, 0, 4))
        self.check_refused(book, "cut", (0, 1, 1, 2, 3, 0, 1, 2), (BlockCut, 0, 0, 4))
        book.cut(0, 8, 8, 2, 2, 0, 0, 4)
        self.assertIsNone(book.block_of(0, 0, 4))
        self.assertEqual(book.text(0, 1, 1), "=#REF!")


class Sorting(Case):
    def test_order(self):
        entries = ["TRUE", "b", "#NA!", "2", "", "A", "#DIV!", "FALSE", "-1", "a", "10", "=A20", "=1/0", "'2"]
        for falling in (False, True):
            book = Book()
            for row, text in enumerate(entries):
                book.put(0, row, 0, text)
                book.put(0, row, 1, str(row))
            keys = [order_key(book.value(0, row, 0)) for row in range(len(entries))]
            book.sort_rows(0, 0, 0, len(entries), 2, 0, falling)
            wanted = sorted(range(len(entries)), key=lambda row: keys[row], reverse=falling)
            self.assertEqual([book.value(0, row, 1) for row in range(len(entries))], [number(row) for row in wanted])
        self.assertEqual(book.text(0, 0, 0), "")

    def test_alike_ones_stay(self):
        for falling, wanted in ((False, "acbd"), (True, "bdac")):
            book = book_of(("A1", "1"), ("A2", "2"), ("A3", "1"), ("A4", "2"), ("B1", "a"), ("B2", "b"), ("B3", "c"),
                ("B4", "d"))
            book.sort_rows(0, 0, 0, 4, 2, 0, falling)
            self.assertEqual("".join([book.text(0, row, 1) for row in range(4)]), wanted)

    def test_formulas(self):
        book = book_of(("A2", "=B2"), ("A3", "=B3+B$3"), ("A4", "=5"), ("B2", "9"), ("B3", "1"), ("B4", "2"),
            ("C2", "x"), ("C4", "y"), ("E1", "=A2"))
        book.sort_rows(0, 1, 0, 3, 1, 0, False)
        self.assertEqual(texts(book), {"A2": "=B2+B$3", "A3": "=5", "A4": "=B4", "B2": "9", "B3": "1", "B4": "2",
            "C2": "x", "C4": "y", "E1": "=A2"})
        book = book_of(("A1", "=A2"), ("A2", "=A1"), ("A3", "#LIMIT!"), ("A4", "7"))
        book.sort_rows(0, 0, 0, 4, 1, 0, False)
        self.assertEqual([book.text(0, row, 0) for row in range(4)], ["7", "#LIMIT!", "=A4", "=A3"])

    def test_references_that_are_lost(self):
        book = book_of(("A1", "2"), ("B1", "=A1"), ("A2", "1"), ("B2", "=A1"))
        book.sort_rows(0, 0, 0, 2, 2, 0, False)
        self.assertEqual(texts(book), {"A1": "1", "B1": "=#REF!", "A2": "2", "B2": "=A2"})

    def test_errors(self):
        book = book_of(("A1", "1"))
        book.put_block(0, 2, 2, 2, 2, "=1")
        for key in (-1, 3, 9):
            self.check_refused(book, "sort_rows", (0, 0, 0, 3, 3, key, False), (BadPlace, 5))
        self.check_refused(book, "sort_rows", (0, 0, 0, 3, 3, 2, False), (BlockCut, 0, 2, 2))
        self.check_refused(book, "sort_rows", (0, 3, 3, 1, 1, 0, True), (BlockCut, 0, 2, 2))
        book.sort_rows(0, 0, 0, 2, 10, 9, True)


class Drawn(unittest.TestCase):
    """Drawn copies, cuts, fills and sorts, held against a working cell by cell."""

    def moved(self, one, down, right):
        return (shifted(one[0], down, right), *one[1:]) if isinstance(one[0], tuple) else one

    def check(self, book, word, arguments, wanted, note):
        getattr(book, word)(*arguments)
        self.assertEqual(told(book, contents(book)), told(book, wanted), note)

    def test_drawn(self):
        for seed in range(60):
            draw = random.Random(seed)
            drawer = Drawer(draw)
            book = Book()
            book.add_sheet(1, "P")
            for _ in range(25):
                try:
                    word = draw.choice(["put", "put", "put", "put_block"])
                    box = drawer.box()
                    getattr(book, word)(draw.randrange(2), *(box if word == "put_block" else box[:2]),
                        drawer.formula() if word == "put_block" else drawer.text())
                except WorkError:
                    pass
            for _ in range(10):
                self.one_deed(book, draw, drawer, seed)

    def one_deed(self, book, draw, drawer, seed):
        sheet, other = draw.randrange(2), draw.randrange(2)
        row, column, height, width = drawer.box()
        to_row, to_column = draw.randrange(6), draw.randrange(4)
        key, to_key = book.sheets()[sheet][0], book.sheets()[other][0]
        before = contents(book)
        source = {(key, row + i, column + j): (to_key, to_row + i,
            to_column + j) for i in range(height) for j in range(width)}
        word = draw.choice(["copy", "cut", "fill_down", "fill_right", "sort_rows"])
        try:
            if word == "copy":
                wanted = {p: one for p, one in before.items() if p not in source.values()}
                wanted.update({source[p]: self.moved(one, to_row - row, to_column - column) for p,
                    one in before.items() if p in source})
                self.check(book, word, (sheet, row, column, height, width, other, to_row, to_column), wanted, seed)
            elif word == "cut":
                areas = (key, row, column, row + height - 1, column + width - 1), (to_key, to_row, to_column,
                    to_row + height - 1, to_column + width - 1)
                wanted = {}
                for p, one in before.items():
                    if p in source or p not in source.values():
                        new = source.get(p, p)
                        wanted[new] = (carried(one[0], p[0], new[0], *areas), *one[1:]) if isinstance(one[0],
                            tuple) else one
                self.check(book, word, (sheet, row, column, height, width, other, to_row, to_column), wanted, seed)
            elif word == "sort_rows":
                by, falling = draw.randrange(width), draw.random() < 0.5
                order = sorted(range(row, row + height), key=lambda at: order_key(book.value(sheet, at, column + by)),
                    reverse=falling)
                wanted = {p: one for p, one in before.items() if p not in source}
                wanted.update({(key, row + new, j): self.moved(before[(key, old, j)], row + new - old, 0)
                               for new, old in enumerate(order) for j in range(column, column + width) if (key, old,
                               j) in before})
                self.check(book, word, (sheet, row, column, height, width, by, falling), wanted, seed)
            else:
                wanted = {p: one for p, one in before.items() if p not in source}
                for p in source:
                    first = (key, row, p[2]) if word == "fill_down" else (key, p[1], column)
                    if first in before:
                        wanted[p] = self.moved(before[first], p[1] - first[1], p[2] - first[2])
                self.check(book, word, (sheet, row, column, height, width), wanted, seed)
        except WorkError:
            pass


if __name__ == "__main__":
    unittest.main()
