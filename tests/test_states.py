"""Tests of [73] and [75]: workbooks saved and loaded."""

import unittest

from sheetworks.book import Book
from sheetworks.errors import BadJournal
from sheetworks.states import loaded, saved
from tests.oracle import Snapshot, check_book, check_deed
from tests.test_book import Case, at, book_of, number


def text_of(*lines):
    """The text of a saved workbook with these lines ahead of its end."""
    ahead = "".join([line + "\n" for line in lines])
    check = 7
    for sign in ahead:
        check = (check * 257 + ord(sign)) % 2147483647
    return f"{ahead}end {check}\n"


EMPTY = ["sheetworks 1", "sheet 0 MAIN", "next 1"]


class Saved(Case):
    def test_each_kind(self):
        book = book_of(("B1", "=a1+1"), ("A1", "1.50"), ("A2", "'12"), ("C1", "#na!"), ("A3", "true"), ("B3", " x "),
            ("J20", "'"))
        book.put_block(0, 4, 4, 2, 3, "={1,2}")
        book.add_sheet(0, "plan")
        book.put(0, 1, 1, "=main!a1")
        book.define("zz", "=plan!$a$1")
        book.define("b", "=1")
        wanted = text_of("sheetworks 1", "sheet 1 PLAN", "cell 1 1 =MAIN!A1", "sheet 0 MAIN", "cell 0 0 1.5",
            "cell 0 1 =A1+1", "cell 0 2 #NA!", "cell 1 0 '12", "cell 2 0 TRUE", "cell 2 1  x ",
            "block 4 4 2 3 ={1,2}", "cell 19 9 '", "name B =1", "name ZZ =PLAN!$A$1", "next 2")
        self.assertEqual(saved(book), wanted)
        self.assertEqual(saved(book=loaded(text=wanted)), wanted)
        self.assertEqual(saved(Book()), text_of(*EMPTY))

    def test_loaded(self):
        book = book_of(("A1", "1"), ("B1", "=A1+N"), ("C1", "=D1"), ("D1", "=C1"), ("E1", "=INDIRECT(\"P!A1\")"))
        book.add_sheet(0, "P")
        book.define("N", "=5")
        book.put_block(0, 5, 5, 2, 2, "=MAIN!A1:B2")
        book.drop_sheet(1)
        book.undo()
        again = loaded(saved(book))
        self.assertEqual((again.journal(), again.undo_depth(), again.redo_depth(), again.anew(), again.changed()),
            ("", 0, 0, (), ()))
        self.assertEqual((again.sheets(), again.names(), saved(again)), (book.sheets(), book.names(), saved(book)))
        check_book(self, again, Snapshot(book))
        self.assertFalse(again.undo())

    def test_deeds_on_a_loaded_one(self):
        again = loaded(text_of("sheetworks 1", "sheet 3 P", "cell 0 0 =B1+X", "cell 0 1 4", "sheet 0 MAIN",
            "name X =P!$B$1", "next 17"))
        before = Snapshot(again)
        self.assertEqual(again.value(0, 0, 0), number(8))
        again.put(0, 0, 1, "5")
        before = check_deed(self, again, before, [], True)
        self.assertEqual(again.anew(), ((0, 0, 0),))
        again.add_sheet(2, "Q")
        self.assertEqual(again.sheets()[2], (17, "Q"))
        before = Snapshot(again)
        again.drop_sheet(0)
        check_deed(self, again, before, [], True)
        self.assertEqual(again.journal().count("\n"), 3)
        while again.undo():
            pass
        self.assertEqual(saved(again), text_of("sheetworks 1", "sheet 3 P", "cell 0 0 =B1+X", "cell 0 1 4",
            "sheet 0 MAIN", "name X =P!$B$1", "next 18"))

    def test_a_long_formula(self):
        book = book_of(("A1", "=(1)"))
        book.add_sheet(1, "a")
        book.put(0, 0, 0, "=" + "a!a1+" * 11 + "1")
        book.rename_sheet(1, "Longest_")
        self.assertGreater(len(book.text(0, 0, 0)), 96)
        self.assertEqual(saved(loaded(saved(book))), saved(book))


class Loaded(Case):
    def check_bad(self, *lines):
        self.check_bad_text(text_of(*lines))

    def check_bad_text(self, text):
        with self.assertRaises(BadJournal) as caught:
            loaded(text)
        self.assertEqual(caught.exception.at, 0, text)

    def with_lines(self, *lines):
        return ["sheetworks 1", "sheet 0 MAIN", *lines, "next 1"]

    def test_good_ones(self):
        for lines in (EMPTY, self.with_lines("cell 0 0 1"), self.with_lines("cell 19 9 x"),
                      self.with_lines("block 0 0 8 8 =1"), self.with_lines("block 0 0 1 2 =1"),
                      self.with_lines("block 18 9 2 1 =1"), self.with_lines("cell 0 0 " + "x" * 64),
                      self.with_lines("cell 0 0 ''" + "x" * 63),
                      ["sheetworks 1", "sheet 999999998 A", "sheet 5 B", "sheet 7 C", "sheet 0 D", "next 999999999"],
                      ["sheetworks 1", "sheet 4 A", "next 5"], ["sheetworks 1", "sheet 0 A", "next 999999999"],
                      self.with_lines(*[f"name {name} =1" for name in "ABCDEFGHIJKL"]),
                      self.with_lines("name MAIN =MAIN!$A$1"), self.with_lines("cell 0 0 =" + "-" * 15 + "1"),
                      self.with_lines("cell 0 0 =SUM(" + ",".join(["MAIN!A1:J20"] * 15) + ")"),
                      self.with_lines("block 2 2 2 2 =1", "cell 2 4 1", "cell 4 2 1"),
                      self.with_lines("cell 0 0 =" + '"' + "x" * 64 + '"')):
            text = text_of(*lines)
            self.assertEqual(saved(loaded(text)), text)

    def test_bounds(self):
        for line in ("cell 20 0 1", "cell 0 10 1", "cell -1 0 1", "cell 00 0 1", "cell 0 00 1", "cell 0 0 ",
                     "cell 0 0", "cell 0 0 1.50", "cell 0 0 true", "cell 0 0 'abc", "cell 0 0 = 1", "cell 0 0 =1 ",
                     "cell 0 0 =(1)", "cell 0 0 =a1", "cell 0 0 =1+", "cell 0 0 =NOPE!A1", "cell 0 0 " + "x" * 65,
                     "cell 0 0 '" + "x" * 65,
                     "cell 0 0 '" + "x" * 64, "cell 0 0 #na!", "cell 0 0 %", "cell 0 0 \u00e4", "cell 0 0 a\tb",
                     "cell  0 0 1", "cell 0  0 1", "Cell 0 0 1", "cell 0 0 +1", "cell 0 0 1.0", "cell 0 0 ='x'",
                     "cell \u0660 0 1", "cell 0 0 =" + "1+" * 70 + "1", "cell 0 0 =" + "-" * 16 + "1",
                     "cell 0 0 ='1'", "cell 1234567890 0 1", "cell 0 0 ='",
                     "block 0 0 1 1 =1", "block 0 0 13 5 =1", "block 0 0 9 8 =1", "block 0 0 0 2 =1",
                     "block 0 0 2 0 =1", "block 19 0 2 1 =1", "block 0 9 1 2 =1", "block 20 0 1 2 =1",
                     "block 0 10 2 1 =1", "block 0 0 2 2 1", "block 0 0 2 2 ", "block 0 0 2 2", "block 0 0 2 =1",
                     "block 0 0 2 2 =", "block 0 0 2 2 =a1", "block 0 0 02 2 =1", "block 0 0 2 2  =1",
                     "block 0 0 2 2 =1+", "block", "cell", "name", "name X", "name X 1", "name X =A1",
                     "name X =MAIN!A1", "name x =1", "name A1 =1", "name SUM =1", "name X =1+", "name  =1",
                     "name X = 1", "name ABCDEFGHI =1", "name X =MAIN!$A$1:$B2", "sheet 1", "sheet 1 P", "sheet 0 P",
                     "sheet 1 MAIN", "sheet x P", "sheet 1 p", "sheet 1 A1", "sheet -1 P", "foo", "",
                     "next 1", "end 5", "sheetworks 1", "name X =MAIN!$A$1 ", "cell 0 0 1 ", " cell 0 0 1"):
            self.check_bad(*self.with_lines(line))

    def test_keys(self):
        for lines in (["sheetworks 1", "next 1"], ["sheetworks 1", "sheet 0 A", "next 0"],
                      ["sheetworks 1", "sheet 1 A", "next 1"], ["sheetworks 1", "sheet 5 A", "sheet 2 B", "next 5"],
                      ["sheetworks 1", "sheet 5 A", "next 3"], ["sheetworks 1", "sheet 0 A", "next 1000000000"],
                      ["sheetworks 1", "sheet 0 A", "next 01"], ["sheetworks 1", "sheet 00 A", "next 1"],
                      ["sheetworks 1", "sheet 0 A"], ["sheetworks 1", "sheet 0 A", "next"],
                      ["sheetworks 1", "sheet 0 A", "next x"], ["sheetworks 1", "sheet 0 A", "next -1"],
                      ["sheetworks 1", "sheet 1000000000 A", "next 1000000001"],
                      ["sheetworks 1", "sheet 999999999 A", "next 1000000000"],
                      ["sheetworks 1"] + [f"sheet {k} N{k}_" for k in range(5)] + ["next 5"],
                      ["sheetworks 1", "sheet 0 A", "sheet 1 A", "next 2"],
                      ["sheetworks 1", "sheet 0 A", "sheet 0 B", "next 2"], ["sheet 0 A", "next 1"],
                      ["sheetworks 2", "sheet 0 A", "next 1"], ["sheetworks  1", "sheet 0 A", "next 1"],
                      ["sheetworks 1", "cell 0 0 1", "sheet 0 A", "next 1"],
                      ["sheetworks 1", "sheet 0 A", "next 1", "name X =1"],
                      ["sheetworks 1", "sheet 0 A", "name X =1", "cell 0 0 1", "next 1"],
                      ["sheetworks 1", "sheet 0 A", "next 1 "], ["sheetworks 1", "sheet 0 a", "next 1"],
                      ["sheetworks 1", "sheet 0 TRUE", "next 1"], ["sheetworks 1", "sheet 0  A", "next 1"]):
            self.check_bad(*lines)
        self.check_bad(*self.with_lines(*[f"name {name} =1" for name in "ABCDEFGHIJKLM"]))

    def test_sequences(self):
        for lines in (("cell 0 1 1", "cell 0 0 1"), ("cell 1 0 1", "cell 0 0 1"), ("cell 0 0 1", "cell 0 0 1"),
                      ("cell 0 0 1", "cell 0 0 2"), ("block 0 0 2 2 =1", "cell 1 1 1"),
                      ("block 0 0 2 2 =1", "cell 1 1 =1"),
                      ("block 0 0 2 2 =1", "block 1 1 2 2 =1"), ("cell 0 0 1", "block 0 0 2 2 =1"),
                      ("block 0 0 2 2 =1", "cell 0 0 1"), ("block 1 0 2 2 =1", "cell 0 0 1"),
                      ("name B =1", "name A =1"), ("name A =1", "name A =1"), ("name A =1", "name A =2"),
                      ("cell 1 1 1", "block 1 0 1 2 =1"), ("cell 1 1 =1", "block 1 0 1 2 =1")):
            self.check_bad(*self.with_lines(*lines))

    def test_spoilt_texts(self):
        whole = saved(loaded(text_of("sheetworks 1", "sheet 3 P", "cell 0 0 =B1+X", "cell 0 1 4", "sheet 0 MAIN",
            "block 1 1 2 2 =A1", "name X =P!$B$1", "next 17")))
        lines = whole.split("\n")
        for at in range(len(lines) - 1):
            self.check_bad_text("\n".join(lines[:at] + lines[at + 1:]))
            self.check_bad_text("\n".join(lines[:at + 1] + lines[at:]))
            if at + 1 < len(lines) - 1:
                self.check_bad_text("\n".join(lines[:at] + [lines[at + 1], lines[at]] + lines[at + 2:]))
            self.check_bad_text("\n".join(lines[:at] + [lines[at] + " "] + lines[at + 1:]))
            self.check_bad_text("\n".join(lines[:at] + [" " + lines[at]] + lines[at + 1:]))
        for end in range(len(whole)):
            self.check_bad_text(whole[:end])
        for text in ("", "\n", whole + "\n", whole + "x", whole * 2, whole.replace("end ", "end 0"),
            whole.replace("\n", "\r\n"), whole.lower()):
            self.check_bad_text(text)
        for k in range(0, len(whole)):
            other = "7" if whole[k] != "7" else "8"
            self.check_bad_text(whole[:k] + other + whole[k + 1:])

    def test_a_sheet_may_be_named_behind(self):
        text = text_of("sheetworks 1", "sheet 0 MAIN", "cell 0 0 =P!A1", "sheet 1 P", "cell 0 0 3", "next 2")
        self.assertEqual(loaded(text).value(0, 0, 0), number(3))
        self.assertEqual(at("B3"), (2, 1))


if __name__ == "__main__":
    unittest.main()
