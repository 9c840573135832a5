"""Tests of [62], [67] and [68]: rows, columns and sheets."""

import random
import unittest

from sheetworks.book import Book
from sheetworks.errors import BadName, BadPlace, BlockCut, NoRoom
from sheetworks.moves import deleted, inserted
from sheetworks.parsing import read_formula
from sheetworks.states import saved
from sheetworks.writing import write_formula
from tests.drawing import Drawer
from tests.test_book import Case, book_of, number, refusal
from tests.test_copying import contents, texts, told


class Rows(Case):
    def test_inserting(self):
        book = book_of(("A1", "1"), ("A3", "3"), ("B1", "=A3"), ("B5", "=SUM(A1:A3)+A1"), ("C1", "=A20"),
            ("D1", "=A18:A20"), ("E1", "=A17:A19"), ("F1", "=$2:3"))
        book.define("N", "=MAIN!$A$3")
        book.add_sheet(1, "P")
        book.put(1, 0, 0, "=MAIN!A3+A3")
        book.insert_rows(0, 2, 2)
        self.assertEqual(texts(book), {"A1": "1", "A5": "3", "B1": "=A5", "B7": "=SUM(A1:A5)+A1", "C1": "=#REF!",
            "D1": "=A20:A20", "E1": "=A19:A20", "F1": "=$2:5"})
        self.assertEqual((texts(book, 1), book.definition("N")), ({"A1": "=MAIN!A5+A3"}, "=MAIN!$A$5"))

    def test_deleting(self):
        book = book_of(("A1", "1"), ("A3", "3"), ("A20", "9"), ("B1", "=A3"), ("B5", "=SUM(A1:A3)+A20"),
            ("C1", "=A2:A4"), ("D1", "=A2:A3"))
        book.define("N", "=MAIN!$A$3")
        book.delete_rows(0, 1, 2)
        self.assertEqual(texts(book), {"A1": "1", "A18": "9", "B1": "=#REF!", "B3": "=SUM(A1:A1)+A18", "C1": "=A2:A2",
            "D1": "=#REF!"})
        self.assertEqual(book.definition("N"), "=#REF!")
        book.delete_rows(0, 0, 20)
        self.assertEqual(texts(book), {})

    def test_there_and_back(self):
        book = book_of(("A1", "1"), ("A3", "=A1+B9"), ("B9", "=SUM(A1:A3)"))
        book.put_block(0, 5, 5, 2, 2, "=A1:B2")
        state = saved(book)
        for word in ("rows", "columns"):
            for at in range(6):
                getattr(book, "insert_" + word)(0, at, 1)
                getattr(book, "delete_" + word)(0, at, 1)
                self.assertEqual(saved(book), state, (word, at))

    def test_columns(self):
        book = book_of(("A1", "1"), ("C1", "3"), ("A2", "=C1"), ("E2", "=SUM(A1:C1)"), ("A3", "=J1"),
            ("A4", "=H1:J1"), ("A5", "=B:$C"), ("A6", "=2:3"))
        book.insert_columns(0, 2, 2)
        self.assertEqual(texts(book), {"A1": "1", "E1": "3", "A2": "=E1", "G2": "=SUM(A1:E1)", "A3": "=#REF!",
            "A4": "=J1:J1", "A5": "=B:$E", "A6": "=2:3"})
        book.delete_columns(0, 1, 4)
        self.assertEqual(texts(book), {"A1": "1", "A2": "=#REF!", "C2": "=SUM(A1:A1)", "A3": "=#REF!", "A4": "=F1:F1",
            "A5": "=#REF!", "A6": "=2:3"})

    def test_places(self):
        book = Book()
        for word, size in (("insert_rows", 20), ("delete_rows", 20), ("insert_columns", 10), ("delete_columns", 10)):
            for arguments, at in (((1, 0, 1), 0), ((-1, -1, 0), 0), ((0, -1, 1), 1), ((0, size, 1), 1),
                ((0, size, 0), 1), ((0, 0, 0), 2), ((0, 0, -1), 2), ((0, 0, size + 1), 2), ((0, size - 1, 2), 2),
                ((0, 3, size - 2), 2)):
                self.check_refused(book, word, arguments, (BadPlace, at))
            for at, many in ((0, size), (size - 1, 1), (3, size - 3), (0, 1)):
                getattr(book, word)(0, at, many)

    def test_no_room(self):
        for word, cell, more in (("rows", "A20", 1), ("rows", "J19", 2), ("columns", "J1", 1), ("columns", "I20", 2)):
            book = book_of((cell, "1"))
            self.check_refused(book, "insert_" + word, (0, 0, more), (NoRoom, word))
            self.check_refused(book, "insert_" + word, (0, 0, more + 1), (NoRoom, word))
            if more > 1:
                getattr(book, "insert_" + word)(0, 0, more - 1)
            book = book_of((cell, "=1"))
            self.check_refused(book, "insert_" + word, (0, 0, more), (NoRoom, word))
        book = Book()
        book.put_block(0, 18, 8, 2, 2, "=1")
        for word, at in (("rows", 0), ("columns", 0)):
            self.check_refused(book, "insert_" + word, (0, at, 1), (NoRoom, word))
        self.check_refused(book, "insert_rows", (0, 19, 1), (BlockCut, 0, 18, 8))
        self.check_refused(book, "insert_columns", (0, 9, 1), (BlockCut, 0, 18, 8))

    def test_blocks(self):
        for word, axis in (("rows", 0), ("columns", 1)):
            for at, wanted in ((2, [4, 3]), (3, [4, 3]), (4, (BlockCut, 0, 3, 3)), (5, (BlockCut, 0, 3, 3)),
                (6, [3, 3]), (7, [3, 3])):
                book = Book()
                book.put_block(0, 3, 3, 3, 3, "=B2")
                if isinstance(wanted, tuple):
                    self.check_refused(book, "insert_" + word, (0, at, 1), wanted)
                    continue
                getattr(book, "insert_" + word)(0, at, 1)
                place = [3, 3]
                place[axis] = wanted[0]
                self.assertEqual(book.block_of(0, *place), (*place, 3, 3))
            for at, many, wanted in ((0, 2, 1), (2, 1, 2), (2, 2, None), (3, 1, None), (3, 2, None), (4, 1, None),
                (5, 1, None), (4, 3, None), (3, 3, "gone"), (2, 5, "gone"), (6, 1, 3)):
                book = Book()
                book.put_block(0, 3, 3, 3, 3, "=B2")
                if wanted is None:
                    self.check_refused(book, "delete_" + word, (0, at, many), (BlockCut, 0, 3, 3))
                    continue
                getattr(book, "delete_" + word)(0, at, many)
                if wanted == "gone":
                    self.assertEqual(texts(book), {})
                    continue
                place = [3, 3]
                place[axis] = wanted
                self.assertEqual(book.block_of(0, *place), (*place, 3, 3))

    def test_two_errors(self):
        book = book_of(("A20", "1"))
        book.put_block(0, 3, 3, 2, 2, "=1")
        book.put_block(0, 4, 0, 2, 2, "=1")
        self.check_refused(book, "insert_rows", (0, 4, 99), (BadPlace, 2))
        self.check_refused(book, "insert_rows", (0, 4, 1), (BlockCut, 0, 3, 3))
        self.check_refused(book, "insert_rows", (0, 5, 1), (BlockCut, 0, 4, 0))
        self.check_refused(book, "insert_rows", (0, 3, 1), (NoRoom, "rows"))
        self.check_refused(book, "delete_rows", (0, 4, 1), (BlockCut, 0, 3, 3))
        book.add_sheet(0, "P")
        self.check_refused(book, "delete_rows", (1, 4, 1), (BlockCut, 1, 3, 3))
        book.insert_rows(0, 4, 1)

    def test_other_sheets_stay(self):
        book = book_of(("A1", "1"))
        book.add_sheet(1, "P")
        book.put(1, 5, 5, "=A1+MAIN!A1")
        book.put_block(1, 3, 3, 2, 2, "=1")
        book.insert_rows(0, 0, 1)
        book.insert_columns(0, 0, 1)
        self.assertEqual(texts(book, 1), {"F6": "=A1+MAIN!B2", "D4": "=1", "D5": "=1", "E4": "=1", "E5": "=1"})
        self.assertEqual(texts(book), {"B2": "1"})
        book.delete_rows(0, 0, 1)
        book.delete_columns(0, 0, 1)
        self.assertEqual(texts(book, 1), {"F6": "=A1+MAIN!A1", "D4": "=1", "D5": "=1", "E4": "=1", "E5": "=1"})
        self.assertEqual(texts(book), {"A1": "1"})


class Sheets(Case):
    def test_adding(self):
        book = Book()
        book.add_sheet(1, "p")
        book.add_sheet(0, "Q")
        book.add_sheet(1, "R")
        self.assertEqual(book.sheets(), ((2, "Q"), (3, "R"), (0, "MAIN"), (1, "P")))
        self.check_refused(book, "add_sheet", (4, "S"), (NoRoom, "sheets"))
        self.check_refused(book, "add_sheet", (5, "1"), (BadPlace, 0))
        self.check_refused(book, "add_sheet", (4, "r"), (BadName, "r"))
        self.check_refused(book, "add_sheet", (4, "A1"), (BadName, "A1"))
        self.check_refused(book, "add_sheet", (-1, "S"), (BadPlace, 0))

    def test_names(self):
        book = Book()
        for name in ("", "A1", "j20", "true", "sum", "Let", "abcdefghi", "a b", "main", "MAIN", "1", "_", "%"):
            self.check_refused(book, "add_sheet", (0, name), (BadName, name))
        book.define("P", "=1")
        book.add_sheet(1, "P")
        for name in ("", "A1", "Main", "SUM", "abcdefghi"):
            self.check_refused(book, "rename_sheet", (1, name), (BadName, name))
        for at in (-1, 2):
            self.check_refused(book, "rename_sheet", (at, ""), (BadPlace, 0))
            self.check_refused(book, "drop_sheet", (at,), (BadPlace, 0))
            self.check_refused(book, "move_sheet", (at, 9), (BadPlace, 0))
            self.check_refused(book, "move_sheet", (0, at), (BadPlace, 1))
        book.rename_sheet(1, "p")
        book.rename_sheet(0, "k1")
        self.assertEqual((book.sheets(), book.undo_depth()), (((0, "K1"), (1, "P")), 4))

    def test_what_dropping_leaves(self):
        book = Book()
        book.add_sheet(1, "P")
        book.put(1, 0, 0, "7")
        book.put(0, 0, 0, "=P!A1+B1")
        book.put(0, 1, 0, "=SUM(P!A1:B2)")
        book.put(0, 2, 0, "=INDIRECT(\"P!A1\")")
        book.define("N", "=P!$A$1")
        book.define("M", "=MAIN!$A$1")
        book.drop_sheet(1)
        self.assertEqual(texts(book), {"A1": "=#REF!+B1", "A2": "=SUM(#REF!)", "A3": "=INDIRECT(\"P!A1\")"})
        self.assertEqual((book.definition("N"), book.definition("M"), book.sheets()),
            ("=#REF!", "=MAIN!$A$1", ((0, "MAIN"),)))
        self.assertEqual(book.shown(0, 2, 0), "#REF!")
        self.check_refused(book, "drop_sheet", (0,), (NoRoom, "sheets"))
        book.add_sheet(1, "P")
        self.assertEqual((book.shown(0, 2, 0), book.anew(), book.sheets()[1]), ("0", ((0, 2, 0),), (2, "P")))
        book.drop_sheet(0)
        self.assertEqual(book.sheets(), ((2, "P"),))

    def test_cells_of_a_dropped_sheet(self):
        book = book_of(("A1", "1"), ("A2", "=A1"))
        book.define("N", "=5")
        book.add_sheet(1, "P")
        book.put(0, 2, 0, "=N")
        book.drop_sheet(0)
        self.assertEqual((book.anew(), book.changed(), texts(book)), ((), (), {}))
        book.define("N", "=6")
        self.assertEqual((book.anew(), book.readers(0, 0, 0)), ((), ()))
        book.undo()
        book.undo()
        self.assertEqual((book.shown(0, 2, 0), book.anew()), ("5", ((0, 1, 0), (0, 2, 0))))

    def test_renaming(self):
        book = Book()
        book.add_sheet(1, "P")
        book.put(1, 0, 0, "7")
        book.put(0, 0, 0, "=P!A1")
        book.put(0, 1, 0, "=INDIRECT(\"P!A1\")")
        book.put(0, 2, 0, "=INDIRECT(\"Q!A1\")")
        book.rename_sheet(1, "Q")
        self.assertEqual((book.text(0, 0, 0), [book.shown(0, row, 0) for row in range(3)]),
            ("=Q!A1", ["7", "#REF!", "7"]))
        self.assertEqual((book.anew(), book.changed()), (((0, 1, 0), (0, 2, 0)), ((0, 1, 0), (0, 2, 0))))
        book.rename_sheet(1, "q")
        self.assertEqual((book.anew(), book.changed()), ((), ()))

    def test_moving(self):
        for at, to, wanted in ((0, 0, "ABC"), (0, 1, "BAC"), (0, 2, "BCA"), (1, 0, "BAC"), (2, 0, "CAB"),
            (2, 1, "ACB"), (1, 2, "ACB"), (2, 2, "ABC")):
            book = Book()
            book.rename_sheet(0, "A")
            book.add_sheet(1, "B")
            book.add_sheet(2, "C")
            book.put(0, 0, 0, "=B!A1+C!A1+INDIRECT(\"C!A1\")")
            book.move_sheet(at, to)
            self.assertEqual("".join([name for _, name in book.sheets()]), wanted)
            self.assertEqual((book.anew(), book.changed()), ((), ()))
            sheet = wanted.index("A")
            self.assertEqual((book.text(sheet, 0, 0), book.value(sheet, 0, 0)),
                ("=B!A1+C!A1+INDIRECT(\"C!A1\")", number(0)))

    def test_greatest_key(self):
        book = Book()
        book.next_key = 999999998
        book.add_sheet(0, "P")
        self.assertEqual(book.sheets()[0], (999999998, "P"))
        self.check_refused(book, "add_sheet", (0, "Q"), (NoRoom, "sheets"))


class Drawn(unittest.TestCase):
    """Drawn insertions and deletions, held against a working cell by cell."""

    def test_drawn(self):
        done = 0
        for seed in range(40):
            draw = random.Random(seed)
            drawer = Drawer(draw)
            book = Book()
            book.add_sheet(1, "P")
            for _ in range(25):
                word, arguments = drawer.deed(book)
                if word in ("put", "put_block", "define"):
                    refusal(getattr(book, word), *arguments)
            for _ in range(8):
                done += self.one_deed(book, draw, seed)
        self.assertGreater(done, 100)

    def one_deed(self, book, draw, seed):
        word = draw.choice(["insert_rows", "insert_columns", "delete_rows", "delete_columns"])
        is_rows = word.endswith("rows")
        sheet, at, many = draw.randrange(2), draw.randrange(7), draw.randrange(1, 4)
        key = book.sheets()[sheet][0]
        before = contents(book)
        names = {name: read_formula(book.definition(name), book.sheets()) for name in book.names()}
        if refusal(getattr(book, word), sheet, at, many) is not None:
            return 0
        move = inserted if word.startswith("insert") else deleted
        wanted = {}
        for place, one in before.items():
            new = self.new_place(place, word, key, at, many, is_rows)
            if new is not None:
                is_formula = isinstance(one[0], tuple)
                wanted[new] = (move(one[0], place[0], key, at, many, is_rows), *one[1:]) if is_formula else one
        self.assertEqual(told(book, contents(book)), told(book, wanted), (seed, word, sheet, at, many))
        for name, tree in names.items():
            moved = move(tree, None, key, at, many, is_rows)
            self.assertEqual(book.definition(name), write_formula(moved, book.sheets()), (seed, word))
        return 1

    def new_place(self, place, word, key, at, many, is_rows):
        n = place[1] if is_rows else place[2]
        if place[0] != key or n < at:
            return place
        if word.startswith("delete") and n < at + many:
            return None
        by = many if word.startswith("insert") else -many
        return (key, place[1] + by, place[2]) if is_rows else (key, place[1], place[2] + by)


if __name__ == "__main__":
    unittest.main()
