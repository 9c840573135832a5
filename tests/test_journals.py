"""Tests of [71] and [72]: journals, replayed and rescued."""

import random
import unittest

from sheetworks.book import Book
from sheetworks.errors import BadJournal, WorkError
from sheetworks.journals import replayed, rescued
from sheetworks.states import saved
from tests.drawing import Drawer
from tests.test_book import Case

DEEDS = [("put", (0, 0, 0, "1")), ("put", (0, 0, 1, "")), ("put", (0, 1, 0, "= a1 + 1 ")), ("put", (0, 2, 0, " x ")),
         ("put_block", (0, 3, 3, 2, 2, "={1,2}")), ("define", ("foo", "=main!$a$1")), ("undefine", ("Foo",)),
         ("clear", (0, 0, 1, 1, 1)),
         ("copy", (0, 0, 0, 2, 1, 0, 9, 8)), ("cut", (0, 9, 8, 1, 1, 0, 8, 7)), ("fill_down", (0, 0, 0, 2, 1)),
         ("fill_right", (0, 0, 0, 1, 2)), ("sort_rows", (0, 0, 0, 2, 1, 0, True)),
         ("sort_rows", (0, 0, 0, 2, 1, 0, False)),
         ("insert_rows", (0, 0, 1)), ("insert_columns", (0, 0, 1)), ("delete_rows", (0, 0, 1)),
         ("delete_columns", (0, 0, 1)), ("add_sheet", (1, "plan")), ("rename_sheet", (1, "Long_one")),
         ("move_sheet", (0, 1)), ("undo", ()), ("redo", ()), ("redo", ()),
         ("begin", ()), ("drop_sheet", (0,)), ("abort", ()), ("begin", ()), ("put", (0, 5, 5, "'")), ("commit", ()),
         ("undo", ())]
CALLS = ["put 0 0 0 1", "put 0 0 1 ", "put 0 1 0 = a1 + 1 ", "put 0 2 0  x ", "put_block 0 3 3 2 2 ={1,2}",
         "define FOO =main!$a$1", "undefine FOO", "clear 0 0 1 1 1",
         "copy 0 0 0 2 1 0 9 8", "cut 0 9 8 1 1 0 8 7", "fill_down 0 0 0 2 1", "fill_right 0 0 0 1 2",
         "sort_rows 0 0 0 2 1 0 1", "sort_rows 0 0 0 2 1 0 0",
         "insert_rows 0 0 1", "insert_columns 0 0 1", "delete_rows 0 0 1", "delete_columns 0 0 1", "add_sheet 1 PLAN",
         "rename_sheet 1 LONG_ONE", "move_sheet 0 1", "undo", "redo", "redo",
         "begin", "drop_sheet 0", "abort", "begin", "put 0 5 5 '", "commit", "undo"]


def journal_of(calls):
    """The text of a journal with these calls, worked out from the words of the document."""
    lines, check = [], 7
    for at, call in enumerate(calls):
        for sign in call:
            check = (check * 257 + ord(sign)) % 2147483647
        lines.append(f"{at + 1} {check} {call}\n")
    return "".join(lines)


def book_of_deeds():
    book = Book()
    for word, arguments in DEEDS:
        getattr(book, word)(*arguments)
    return book


class Lines(Case):
    def test_each_call(self):
        book = Book()
        self.assertEqual(book.journal(), "")
        for at, (word, arguments) in enumerate(DEEDS):
            getattr(book, word)(*arguments)
            self.assertEqual(book.journal(), journal_of(CALLS[:at + 1]), word)

    def test_calls_that_raise_or_ask(self):
        book = book_of_deeds()
        told = book.journal()
        for word, arguments in (("put", (0, 0, 0, "=1+")), ("commit", ()), ("add_sheet", (0, "1")),
            ("value", (0, 0, 0)), ("probe", (0, "=1")), ("text", (0, 0, 0))):
            try:
                getattr(book, word)(*arguments)
            except WorkError:
                pass
            self.assertEqual(book.journal(), told)

    def test_in_vain(self):
        book = Book()
        book.undo()
        book.redo()
        self.assertEqual(book.journal(), journal_of(["undo", "redo"]))


class Replayed(Case):
    def check_bad(self, calls_or_text, at, many=None):
        text = calls_or_text if isinstance(calls_or_text, str) else journal_of(calls_or_text)
        with self.assertRaises(BadJournal) as caught:
            replayed(text)
        self.assertEqual(caught.exception.at, at, text)
        book, found = rescued(text)
        self.assertEqual(found, at - 1, text)
        self.assertEqual(book.journal(), "".join([line + "\n" for line in text.split("\n")[:at - 1]]))

    def test_whole(self):
        text = journal_of(CALLS)
        book = replayed(text)
        wanted = book_of_deeds()
        self.assertEqual((book.journal(), saved(book)), (text, saved(wanted)))
        self.assertEqual((book.undo_depth(), book.redo_depth()), (wanted.undo_depth(), wanted.redo_depth()))
        self.assertEqual((book.anew(), book.changed()), (wanted.anew(), wanted.changed()))
        again, many = rescued(text)
        self.assertEqual((saved(again), many, again.journal()), (saved(book), len(CALLS), text))
        while True:
            self.assertEqual(saved(book), saved(wanted))
            if not wanted.undo():
                break
            book.undo()
        self.assertEqual(replayed(text="").journal(), "")

    def test_cut_at_each_place(self):
        text = journal_of(CALLS)
        for end in range(len(text)):
            whole = text[:end].rpartition("\n")[0]
            whole = whole + "\n" if whole else ""
            if end % 7 == 0 or text[end] == "\n":
                self.assertEqual(replayed(text[:end]).journal(), whole)
        self.assertEqual(replayed("nothing at all").journal(), "")
        self.assertEqual(rescued("nothing")[1], 0)

    def test_each_line_spoilt(self):
        lines = journal_of(CALLS).split("\n")[:-1]
        for at, line in enumerate(lines):
            number, check, call = line.split(" ", 2)
            for wrong in (f"{int(number) + 1} {check} {call}", f"0{number} {check} {call}",
                          f"{number} {int(check) + 1} {call}", f"{number} 0{check} {call}",
                          f"{number}  {check} {call}",
                          f"{number} {check}", "", f" {line}", f"{line} ", f"{line}x",
                          f"{number} {check}  {call}", f"x {check} {call}", f"{number} x {call}",
                          f"{number} {check} {call.upper() if call != call.upper() else 'x'}", f"-{line}"):
                spoilt = lines[:at] + [wrong] + lines[at + 1:]
                with self.assertRaises(BadJournal) as caught:
                    replayed("\n".join(spoilt) + "\n")
                self.assertEqual(caught.exception.at, at + 1, wrong)

    def test_lines_left_out_or_twice(self):
        lines = journal_of(CALLS).split("\n")[:-1]
        for at in range(len(lines) - 1):
            self.check_bad("\n".join(lines[:at] + lines[at + 1:]) + "\n", at + 1)
            self.check_bad("\n".join(lines[:at + 1] + lines[at:]) + "\n", at + 2)

    def test_calls_that_no_book_tells(self):
        for call in ("put 0 0 0", "put 0 0 0 =1+", "put 0 0 00 1", "put 00 0 0 1", "put 0 0 10 1", "put 1 0 0 1",
                     "put -1 0 0 1", "put 0 20 0 1", "put  0 0 0 1", "put 0 0 0 \u00e4", "put 0 0 0 a\tb",
                     "put 0 +1 0 1",
                     "put 0 0 0 " + "x" * 65, "put 0 \u0661 0 1", "Put 0 0 0 1", "put 0 1_0 0 1",
                     "put 0 0 999999999999999999999 1",
                     "put 0 0 " + "9" * 5000 + " 1", "define foo =1", "define Foo =1", "define FOO =A1", "define FOO",
                     "define FOO  =1", "define A1 =1", "define  =1", "undefine FOO", "undefine", "clear 0 0 0 1",
                     "clear 0 0 0 1 1 1", "clear 0 0 0 1 1 ", "clear 0 0 0 0 1", "copy 0 0 0 1 1 0 0",
                     "copy 0 0 0 1 1 0 0 0 0", "cut 0 0 0 1 1 0 0 10",
                     "fill_down 0 0 0 1", "fill_right 0 0 0 1 11", "sort_rows 0 0 0 1 1 0", "sort_rows 0 0 0 1 1 0 2",
                     "sort_rows 0 0 0 1 1 0 True", "sort_rows 0 0 0 1 1 0 00", "sort_rows 0 0 0 1 1 1 0",
                     "sort_rows 0 0 0 1 1 0 01", "insert_rows 0 0", "insert_rows 0 0 0", "insert_rows 0 0 1 1",
                     "insert_columns 0 0 11", "delete_rows 0 20 1",
                     "delete_columns 0 9 2", "add_sheet 0 foo", "add_sheet 0", "add_sheet 0 FOO 1", "add_sheet FOO 0",
                     "add_sheet 2 FOO", "add_sheet 0 MAIN", "drop_sheet 0", "drop_sheet", "rename_sheet 0 foo",
                     "rename_sheet 0", "move_sheet 0 1", "move_sheet 0", "undo 1", "undo ", "redo ", "begin 1",
                     "commit", "abort", "", " ", "value 0 0 0", "probe 0 =1",
                     "text 0 0 0", "journal", "__init__", "become", "do", "start", "put_block 0 0 0 1 1 =1",
                     "put_block 0 0 0 2 2 1", "put_block 0 0 0 2 2", "undo\r"):
            self.check_bad(["put 0 5 5 1", call, "put 0 6 6 1"], 2)
        self.check_bad(["begin", "undo"], 2)
        self.check_bad(["begin", "begin"], 2)
        self.check_bad(["commit"], 1)
        self.check_bad("\n", 1)
        self.check_bad("1 1 put 0 0 0 1\n", 1)

    def test_drawn_ones(self):
        for seed in range(10):
            draw = random.Random(seed)
            drawer = Drawer(draw)
            book = Book()
            for _ in range(60):
                word, arguments = drawer.deed(book)
                try:
                    getattr(book, word)(*arguments)
                except WorkError:
                    pass
            again = replayed(book.journal())
            self.assertEqual((saved(again), again.journal()), (saved(book), book.journal()))
            try:
                book.commit()
                again.commit()
            except WorkError:
                pass
            while book.undo():
                self.assertTrue(again.undo())
                self.assertEqual(saved(again), saved(book))
            self.assertFalse(again.undo())


if __name__ == "__main__":
    unittest.main()
