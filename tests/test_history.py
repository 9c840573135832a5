"""Tests of [69] and [70]: steps and groups."""

import unittest

from sheetworks.book import Book
from sheetworks.errors import NoRoom, NothingThere
from sheetworks.states import saved
from tests.test_book import Case, book_of, number


def state(book):
    """The workbook but for the key that the next new sheet gets."""
    return saved(book).rpartition("next ")[0]


class Steps(Case):
    def test_back_and_forth(self):
        book = Book()
        deeds = [("put", (0, 0, 0, "1")), ("put", (0, 0, 1, "=A1+X")), ("define", ("X", "=5")),
                 ("put_block", (0, 2, 2, 2, 2, "=A1")), ("copy", (0, 0, 0, 1, 2, 0, 9, 0)),
                 ("insert_rows", (0, 0, 1)),
                 ("add_sheet", (0, "P")), ("cut", (1, 1, 0, 1, 2, 0, 3, 3)),
                 ("rename_sheet", (0, "Q")), ("sort_rows", (1, 0, 0, 5, 1, 0, True)), ("fill_down", (0, 3, 3, 3, 2)),
                 ("move_sheet", (0, 1)), ("delete_columns", (0, 0, 1)), ("undefine", ("X",)), ("drop_sheet", (0,)),
                 ("clear", (0, 0, 0, 9, 9))]
        states = [saved(book)]
        for word, arguments in deeds:
            getattr(book, word)(*arguments)
            states.append(saved(book))
        whole = saved(book)
        for at in range(len(deeds))[::-1]:
            self.assertIs(book.undo(), True)
            self.assertEqual(state(book), states[at].rpartition("next ")[0], deeds[at])
            self.assertEqual((book.undo_depth(), book.redo_depth()), (at, len(deeds) - at))
        self.assertIs(book.undo(), False)
        for at in range(len(deeds)):
            self.assertIs(book.redo(), True)
            self.assertEqual(state(book), states[at + 1].rpartition("next ")[0], deeds[at])
        self.assertEqual(saved(book), whole)
        self.assertIs(book.redo(), False)

    def test_forty(self):
        book = Book()
        for k in range(41):
            self.assertEqual(book.undo_depth(), k)
            book.put(0, 0, 0, str(k))
        self.assertEqual(book.undo_depth(), 40)
        for _ in range(40):
            self.assertTrue(book.undo())
        self.assertFalse(book.undo())
        self.assertEqual(book.value(0, 0, 0), number(0))
        self.assertEqual(book.redo_depth(), 40)
        for _ in range(40):
            self.assertTrue(book.redo())
        self.assertEqual((book.value(0, 0, 0), book.undo_depth()), (number(40), 40))

    def test_a_new_step_forgets(self):
        book = book_of(("A1", "1"), ("A1", "2"), ("A1", "3"))
        book.undo()
        book.undo()
        self.assertEqual(book.redo_depth(), 2)
        # A refused call forgets nothing.
        self.assertRaises(Exception, book.put, 0, 0, 0, "=1+")
        self.assertEqual(book.redo_depth(), 2)
        book.move_sheet(0, 0)
        self.assertEqual((book.redo_depth(), book.undo_depth()), (0, 2))
        self.assertFalse(book.redo())

    def test_steps_that_change_nothing(self):
        book = Book()
        book.put(0, 0, 0, "")
        book.clear(0, 0, 0, 1, 1)
        book.move_sheet(0, 0)
        book.copy(0, 0, 0, 1, 1, 0, 0, 0)
        book.rename_sheet(0, "MAIN")
        self.assertEqual((book.undo_depth(), book.anew(), book.changed()), (5, (), ()))

    def test_what_undo_tells(self):
        book = book_of(("A1", "1"), ("B1", "=A1"), ("A1", "2"))
        book.undo()
        self.assertEqual((book.anew(), book.changed()), (((0, 0, 1),), ((0, 0, 0), (0, 0, 1))))
        book.undo()
        self.assertEqual((book.anew(), book.changed()), ((), ((0, 0, 1),)))
        book.redo()
        self.assertEqual((book.anew(), book.changed()), (((0, 0, 1),), ((0, 0, 1),)))
        book.redo()
        self.assertFalse(book.redo())
        self.assertEqual((book.anew(), book.changed()), ((), ()))


class Groups(Case):
    def test_one_step(self):
        book = book_of(("A1", "1"))
        book.begin()
        book.put(0, 0, 0, "2")
        book.put(0, 0, 1, "=A1")
        self.assertEqual((book.undo_depth(), book.redo_depth()), (1, 0))
        book.commit()
        self.assertEqual(book.undo_depth(), 2)
        behind = saved(book)
        book.undo()
        self.assertEqual((book.value(0, 0, 0), book.text(0, 0, 1)), (number(1), ""))
        book.redo()
        self.assertEqual(saved(book), behind)

    def test_empty_groups(self):
        book = book_of(("A1", "1"), ("A1", "2"))
        book.undo()
        anew = book.anew(), book.changed()
        book.begin()
        self.assertEqual((book.anew(), book.changed()), anew)
        book.commit()
        self.assertEqual((book.undo_depth(), book.redo_depth()), (1, 1))
        self.assertEqual((book.anew(), book.changed()), anew)
        book.begin()
        book.abort()
        self.assertEqual((book.undo_depth(), book.redo_depth()), (1, 1))
        self.assertEqual((book.anew(), book.changed()), ((), ()))
        self.assertTrue(book.redo())

    def test_deeds_that_change_nothing(self):
        book = Book()
        book.begin()
        book.move_sheet(0, 0)
        book.commit()
        self.assertEqual(book.undo_depth(), 1)

    def test_refused_deeds(self):
        book = book_of(("A1", "1"), ("A1", "2"))
        book.undo()
        book.begin()
        self.assertRaises(Exception, book.put, 0, 0, 0, "=1+")
        book.commit()
        self.assertEqual((book.undo_depth(), book.redo_depth()), (1, 1))

    def test_abort(self):
        book = book_of(("A1", "1"), ("B1", "=A1"), ("A1", "2"))
        book.undo()
        state_ahead = saved(book)
        book.begin()
        book.put(0, 0, 0, "5")
        self.assertEqual(book.redo_depth(), 0)
        book.add_sheet(0, "P")
        book.define("X", "=1")
        book.abort()
        self.assertEqual(state(book), state_ahead.rpartition("next ")[0])
        self.assertEqual((book.undo_depth(), book.redo_depth()), (2, 0))
        self.assertEqual((book.anew(), book.changed()), (((0, 0, 1),), ((0, 0, 0), (0, 0, 1))))
        book.undo()
        self.assertEqual(book.text(0, 0, 1), "")

    def test_more_than_forty(self):
        book = Book()
        for k in range(40):
            book.put(0, 1, 0, str(k))
        book.begin()
        for k in range(50):
            book.put(0, 0, 0, str(k))
            self.assertEqual(book.undo_depth(), 40)
        book.abort()
        self.assertEqual(book.undo_depth(), 40)
        book.begin()
        for k in range(50):
            book.put(0, 0, 0, str(k))
        book.commit()
        self.assertEqual(book.undo_depth(), 40)
        book.undo()
        self.assertEqual((book.text(0, 0, 0), book.text(0, 1, 0)), ("", "39"))
        while book.undo():
            pass
        self.assertEqual(book.text(0, 1, 0), "0")

    def test_errors(self):
        book = book_of(("A1", "1"))
        for word in ("commit", "abort"):
            self.check_refused(book, word, (), (NothingThere, "group"))
        book.undo()
        book.begin()
        for word in ("begin", "undo", "redo"):
            self.check_refused(book, word, (), (NoRoom, "group"))
        book.commit()
        self.check_refused(book, "commit", (), (NothingThere, "group"))
        book.begin()
        book.abort()
        self.check_refused(book, "abort", (), (NothingThere, "group"))
        book.redo()

    def test_keys_are_not_given_again(self):
        book = Book()
        book.begin()
        book.add_sheet(0, "P")
        book.abort()
        book.add_sheet(0, "P")
        book.undo()
        book.add_sheet(0, "P")
        self.assertEqual(book.sheets()[0], (3, "P"))


if __name__ == "__main__":
    unittest.main()
