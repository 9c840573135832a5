"""Tests of [74] and [75]: drawn histories of all deeds, held against a working from the texts alone."""

import random
import unittest

from sheetworks.book import Book
from sheetworks.errors import WorkError
from sheetworks.journals import replayed
from sheetworks.states import loaded, saved
from tests.drawing import Drawer
from tests.oracle import Logged, Snapshot, check_book, check_deed

HISTORIES = 30
DEEDS = 40
DENSE_HISTORIES = 10
DENSE_DEEDS = 100


class Histories(unittest.TestCase):
    def test_drawn_histories(self):
        for seed in range(HISTORIES):
            self.one_history(Drawer(random.Random(seed)), DEEDS, f"history {seed}")

    def test_dense_histories(self):
        """Many formulas in few cells, so that circles come and go."""
        for seed in range(DENSE_HISTORIES):
            drawer = Drawer(random.Random(seed), 4, 3, 0.9)
            self.one_history(drawer, DENSE_DEEDS, f"dense history {seed}")

    def one_history(self, drawer, many, note):
        logged = Logged()
        book = Book(logged)
        book.add_sheet(1, "P")
        before = Snapshot(book)
        for at in range(many):
            word, arguments = drawer.deed(book)
            told = f"{note}, {at}: {word}{arguments}"
            logged.calls = []
            state, journal = saved(book), book.journal()
            behind = (book.anew(), book.changed(), book.undo_depth(), book.redo_depth())
            try:
                getattr(book, word)(*arguments)
            except WorkError:
                self.assertEqual((saved(book), book.journal()), (state, journal), told)
                now = (book.anew(), book.changed(), book.undo_depth(), book.redo_depth())
                self.assertEqual(now, behind, told)
                self.assertEqual(logged.calls, [], told)
                continue
            if word in ("begin", "commit"):
                self.assertEqual((book.anew(), book.changed()), behind[:2], told)
                self.assertEqual(saved(book), state, told)
                continue
            is_back = word in ("undo", "redo", "abort")
            before = check_deed(self, book, before, logged.calls, is_back, told)
        self.check_texts(book, before, note)

    def check_texts(self, book, now, note):
        again = replayed(book.journal())
        self.assertEqual(saved(again), saved(book), note)
        self.assertEqual(again.journal(), book.journal(), note)
        self.assertEqual((again.undo_depth(), again.redo_depth()), (book.undo_depth(), book.redo_depth()), note)
        other = loaded(saved(book))
        self.assertEqual(saved(other), saved(book), note)
        check_book(self, other, now, note)


if __name__ == "__main__":
    unittest.main()
