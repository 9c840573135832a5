"""Tests of [37], [38], [44] and [60]: the least solution, circles, and what is evaluated anew."""

import itertools
import random
import unittest

from sheetworks.book import Book
from sheetworks.states import loaded, saved
from tests.oracle import Logged, Snapshot, check_book, check_deed
from tests.test_book import Case, at, book_of, number

CIRCLE = ("error", "CIRC")


def places(words, sheet=0):
    return tuple([(sheet, *at(word)) for word in words.split()])


class Circles(Case):
    def check_values(self, book, **told):
        for word, value in told.items():
            wanted = CIRCLE if value == "circle" else number(value) if isinstance(value, int) else value
            self.assertEqual(book.value(0, *at(word)), wanted, word)

    def test_of_one_two_and_many(self):
        book = book_of(("A1", "=A1"), ("B1", "=B2+1"), ("B2", "=B1"), ("C1", "=C2"), ("C2", "=C3"), ("C3", "=C4"),
            ("C4", "=C1"), ("D1", "=A1"), ("D2", "=D1+C3"))
        self.check_values(book, A1="circle", B1="circle", B2="circle", C1="circle", C4="circle", D1="circle",
            D2="circle")
        self.assertEqual(book.circle(0, 0, 0), places("A1 A1"))
        self.assertEqual(book.circle(0, 0, 1), places("B1 B2 B1"))
        self.assertEqual(book.circle(0, *at("C2")), places("C2 C3 C4 C1 C2"))
        self.assertEqual(book.circle(0, *at("D2")), places("D2 D1 A1 A1"))
        self.assertEqual(book.circle(0, *at("D1")), places("D1 A1 A1"))
        for word in ("E1", "J20"):
            self.assertEqual(book.circle(0, *at(word)), ())
        book.put(0, *at("E1"), "=1")
        self.assertEqual(book.circle(0, *at("E1")), ())
        book.put(0, *at("C3"), "5")
        self.check_values(book, C1=5, C2=5, C3=5, C4=5, D2="circle")
        self.assertEqual(book.anew(), places("C1 C2 C4"))
        self.assertEqual(book.changed(), places("C1 C2 C3 C4"))

    def test_that_could_be_but_are_not(self):
        book = book_of(("A1", "=IF(B1,A2,1)"), ("A2", "=A1+1"), ("B1", "0"), ("C1", "=CHOOSE(1,5,C1)"),
            ("D1", "=ROWS(D1:D5)"), ("E1", "=ISREF(E1)"), ("F1", "=INDEX(F1:F3,2)"), ("G1", "=IF(TRUE,1,G1)"),
            ("H1", "=LET(x,H1,3)"), ("I1", "=ROW(I1)"))
        self.check_values(book, A1=1, A2=2, C1=5, D1=5, E1=("truth", True), F1=0, G1=1, H1=3, I1=1)
        book.put(0, *at("B1"), "1")
        self.check_values(book, A1="circle", A2="circle")
        self.assertEqual(book.circle(0, 0, 0), places("A1 A2 A1"))
        book.put(0, *at("B1"), "0")
        self.check_values(book, A1=1, A2=2)
        self.assertEqual(book.anew(), places("A1 A2"))

    def test_through_errors_are_not_met(self):
        book = book_of(("A1", "=IFERROR(A2,1)"), ("A2", "=A1"), ("B1", "=IFERROR(B1,1)"), ("C1", "=ISERROR(A1)"),
            ("D1", "=COUNT(A1)"), ("E1", "=INDIRECT(\"E\"&1)"), ("F1", "=SUM(E1:F1)"), ("G1", "=IFNA(G1,1)"))
        self.check_values(book, A1="circle", A2="circle", B1="circle", C1="circle", D1="circle", E1="circle",
            F1="circle", G1="circle")
        self.assertEqual(book.circle(0, *at("F1")), places("F1 E1 E1"))

    def test_of_blocks(self):
        book = Book()
        book.put_block(0, 0, 0, 2, 2, "=C1:D2")
        book.put(0, 0, 2, "=B2")
        self.check_values(book, A1="circle", B1="circle", A2="circle", B2="circle", C1="circle")
        self.assertEqual(book.circle(0, 0, 0), places("A1 C1 B2"))
        self.assertEqual(book.circle(0, 1, 0), places("A2 C1 B2"))
        self.assertEqual(book.circle(0, 0, 2), places("C1 B2 C1"))
        book.put_block(0, 5, 5, 1, 2, "=F6+1")
        self.assertEqual(book.circle(0, 5, 6), places("G6 F6"))
        book.put(0, 0, 2, "4")
        self.check_values(book, A1=4, B1=0, A2=0, B2=0)

    def test_over_two_sheets(self):
        book = Book()
        book.add_sheet(0, "P")
        book.put(0, 0, 0, "=MAIN!A1")
        book.put(1, 0, 0, "=INDIRECT(\"p!a1\")")
        self.assertEqual(book.circle(1, 0, 0), ((1, 0, 0), (0, 0, 0), (1, 0, 0)))
        book.rename_sheet(0, "Q")
        self.assertEqual((book.circle(1, 0, 0), book.shown(1, 0, 0), book.shown(0, 0, 0)), ((), "#REF!", "#REF!"))

    def test_that_hide_what_is_behind(self):
        # A formula in a circle reads just one such cell, the last of its reads.
        book = book_of(("A1", "=B1+A2+A1"), ("A2", "=A1"), ("B1", "7"))
        self.assertEqual(book.reads(0, 0, 0), (("cell", 0, 0, 1), ("cell", 0, 1, 0)))
        self.assertEqual(book.circle(0, 0, 0), places("A1 A2 A1"))
        book.put(0, 0, 1, "=B1")
        self.assertEqual(book.reads(0, 0, 0), (("cell", 0, 0, 1),))
        self.assertEqual(book.circle(0, 0, 0), places("A1 B1 B1"))

    def test_chains(self):
        book = book_of(("A1", "1"), ("A2", "=A1+1"))
        book.fill_down(0, 1, 0, 19, 1)
        book.put(0, 0, 1, "=A20+1")
        book.put(0, 1, 1, "=B1+1")
        book.fill_down(0, 1, 1, 19, 1)
        for column in range(2, 10):
            book.copy(0, 0, 1, 20, 1, 0, 0, column)
        self.check_values(book, A20=20, J20=200, J1=181)
        book.put(0, 0, 0, "11")
        self.check_values(book, A20=30, J20=210)
        self.assertEqual((len(book.anew()), len(book.changed())), (199, 200))
        book.put(0, 0, 0, "=J20")
        self.check_values(book, A1="circle", J20="circle")
        self.assertEqual(len(book.circle(0, 0, 0)), 201)
        self.assertEqual((len(book.anew()), len(book.changed())), (200, 200))
        book.undo()
        self.check_values(book, J20=210)

    def test_chains_to_the_right(self):
        book = book_of(("A1", "1"), ("B1", "=A1*2"))
        book.fill_right(0, 0, 1, 1, 9)
        for row in range(1, 20):
            book.put(0, row, 0, f"=J{row}-J{row}+A{row}+1")
            book.copy(0, 0, 1, 1, 9, 0, row, 1)
        self.check_values(book, J1=512, J2=1024, J20=512 * 20)
        book.put(0, 0, 0, "0")
        self.check_values(book, J1=0, J20=512 * 19)
        self.assertEqual(len(book.anew()), 199)

    def test_a_chain_over_all_cells(self):
        logged = Logged()
        book = Book(logged)
        for sheet in range(1, 4):
            book.add_sheet(sheet, f"S{sheet}_")
        names = [name for _, name in book.sheets()]
        cells = [(sheet, row, column) for sheet in range(4) for row in range(20) for column in range(10)]
        for (sheet, row, column), ahead in list(zip(cells[1:], cells))[::-1]:
            book.put(sheet, row, column, f"={names[ahead[0]]}!{'ABCDEFGHIJ'[ahead[2]]}{ahead[1] + 1}+1")
        logged.calls = []
        book.put(0, 0, 0, "1")
        self.assertEqual(book.value(3, 19, 9), number(800))
        self.assertEqual(len([1 for call in logged.calls if call[2] is not None]), 799)
        again = loaded(saved(book))
        self.assertEqual(again.value(3, 19, 9), number(800))
        book.put(0, 0, 0, "=" + names[3] + "!J20")
        self.assertEqual(book.value(2, 5, 5), CIRCLE)
        self.assertEqual(len(book.circle(0, 0, 0)), 801)

    def test_the_sequence_does_not_matter(self):
        entries = [("A1", "=B1+C1"), ("B1", "=IF(D1,C1,2)"), ("C1", "=D1*2"), ("D1", "=E1"), ("E1", "3"),
            ("F1", "=G1"), ("G1", "=F1+A1"), ("H1", "=IF(A1>5,1,F1)")]
        told = {saved(book_of(*entries))}
        wanted = Snapshot(book_of(*entries))
        draw = random.Random(2)
        for _ in range(30):
            draw.shuffle(entries)
            book = book_of(*entries)
            told.add(saved(book))
            check_book(self, book, wanted)
        self.assertEqual(len(told), 1)


class Anew(Case):
    def check_anew(self, book, anew, changed):
        self.assertEqual(book.anew(), places(anew))
        self.assertEqual(book.changed(), tuple(sorted(places(changed))))

    def test_puts(self):
        book = book_of(("A1", "1"), ("B1", "=A1>0"), ("C1", "=IF(B1,1,A1)"), ("D1", "=C1+A2"))
        self.check_anew(book, "D1", "D1")
        book.put(0, 0, 0, "2")
        # A value that is the same again stops the wave.
        self.check_anew(book, "B1", "A1")
        book.put(0, 0, 0, "-1")
        self.check_anew(book, "B1 C1 D1", "A1 B1 C1 D1")
        book.put(0, 0, 0, "-2")
        self.check_anew(book, "B1 C1 D1", "A1 C1 D1")
        book.put(0, 0, 0, "-2")
        self.check_anew(book, "", "")
        book.put(0, 0, 3, "=C1+A2")
        self.check_anew(book, "", "")
        book.put(0, 0, 3, "=C1+A2+0")
        self.check_anew(book, "D1", "")
        book.put(0, 0, 2, "=2-4")
        self.check_anew(book, "C1", "")
        book.put(0, 0, 2, "-2")
        self.check_anew(book, "", "")
        book.put(0, 0, 2, "")
        self.check_anew(book, "D1", "C1 D1")

    def test_blocks(self):
        book = book_of(("A1", "1"), ("D1", "=B1"), ("D2", "=B2"))
        book.put_block(0, 0, 1, 2, 1, "=A1:A2")
        self.check_anew(book, "B1 D1 D2", "B1 B2 D1")
        book.put(0, 1, 0, "5")
        self.check_anew(book, "B1 D2", "A2 B2 D2")
        book.put_block(0, 0, 1, 2, 1, "=A1:A2")
        self.check_anew(book, "", "")
        book.put_block(0, 0, 1, 3, 1, "=A1:A2")
        self.check_anew(book, "B1", "B3")
        book.clear(0, 0, 1, 3, 1)
        self.check_anew(book, "D1 D2", "B1 B2 B3 D1 D2")

    def test_what_was_asked_in_vain(self):
        book = book_of(("A1", "=FOO"), ("B1", "=INDIRECT(\"P!A1\")"), ("C1", "=1"))
        book.define("FOO", "=MAIN!$C$1")
        self.check_anew(book, "A1", "A1")
        book.define("BAR", "=1")
        self.check_anew(book, "", "")
        book.define("FOO", "=MAIN!$C$1")
        self.check_anew(book, "", "")
        book.define("FOO", "=1")
        self.check_anew(book, "A1", "")
        book.undefine("FOO")
        self.check_anew(book, "A1", "A1")
        book.add_sheet(1, "P")
        self.check_anew(book, "B1", "B1")
        book.put(1, 0, 0, "4")
        self.assertEqual((book.anew(), book.changed()), (places("B1"), ((0, 0, 1), (1, 0, 0))))
        book.drop_sheet(1)
        self.check_anew(book, "B1", "B1")

    def test_sheets(self):
        book = book_of(("A1", "=A2"), ("A2", "1"))
        book.add_sheet(0, "P")
        self.assertEqual((book.anew(), book.changed()), ((), ()))
        book.put(0, 0, 0, "=MAIN!A1")
        self.assertEqual(book.anew(), ((0, 0, 0),))
        book.put(1, 1, 0, "2")
        self.assertEqual((book.anew(), book.changed()), (((0, 0, 0), (1, 0, 0)), ((0, 0, 0), (1, 0, 0), (1, 1, 0))))
        book.drop_sheet(1)
        self.assertEqual((book.anew(), book.changed()), (((0, 0, 0),), ((0, 0, 0),)))
        book.undo()
        # The cells of a sheet that was not there before are not changed ones.
        self.assertEqual((book.anew(), book.changed()), (((0, 0, 0), (1, 0, 0)), ((0, 0, 0),)))

    def test_moved_formulas(self):
        book = book_of(("A1", "1"), ("B1", "=A1"), ("B2", "=$A$1"), ("C5", "=7"))
        book.insert_rows(0, 1, 1)
        self.check_anew(book, "B3 C6", "B2 B3 C5 C6")
        book.delete_rows(0, 1, 1)
        self.check_anew(book, "B2 C5", "B2 B3 C5 C6")
        book.cut(0, 0, 0, 1, 1, 0, 5, 0)
        self.check_anew(book, "B1 B2", "A1 A6")
        book.copy(0, 4, 2, 1, 1, 0, 4, 3)
        self.check_anew(book, "D5", "D5")

    def test_calls_that_only_ask(self):
        book = book_of(("A1", "1"), ("B1", "=A1"))
        anew, changed = book.anew(), book.changed()
        for word, arguments in (("value", (0, 0, 0)), ("probe", (0, "=A1")), ("begin", ()), ("commit", ()),
            ("readers", (0, 0, 0)), ("journal", ())):
            getattr(book, word)(*arguments)
            self.assertEqual((book.anew(), book.changed()), (anew, changed))
        self.assertRaises(Exception, book.put, 9, 0, 0, "")
        self.assertEqual((book.anew(), book.changed()), (anew, changed))
        book.begin()
        book.put(0, 0, 0, "2")
        self.assertEqual(book.anew(), ((0, 0, 1),))
        book.put(0, 0, 0, "1")
        book.commit()
        self.assertEqual((book.anew(), book.changed()), (((0, 0, 1),), ((0, 0, 0), (0, 0, 1))))

    def test_reads_that_change_without_a_value(self):
        # What a formula reads may be others with the same value; what it read before counts.
        book = book_of(("A1", "1"), ("A2", "5"), ("A3", "5"), ("B1", "=INDEX(A2:A3,A1)"), ("C1", "=B1"))
        book.put(0, 0, 0, "2")
        self.check_anew(book, "B1", "A1")
        self.assertEqual(book.reads(0, 0, 1), (("cell", 0, 0, 0), ("cell", 0, 2, 0)))
        book.put(0, 1, 0, "6")
        self.check_anew(book, "", "A2")

    def test_one_of_several_reads(self):
        """A formula waits for all that it had read, in whatever sequence that is settled."""
        words = ("B1", "C1", "D1")
        for order in itertools.permutations(words):
            for changes in itertools.product((False, True), repeat=3):
                book = book_of(("A1", "1"), ("E1", "=B1+C1+D1"), ("F1", "=E1"), ("G1", "=F1+B1"))
                for word in order:
                    book.put(0, *at(word), "=A1*2" if changes[words.index(word)] else "=IF(A1,5,6)")
                before = Snapshot(book)
                book.put(0, 0, 0, "2")
                check_deed(self, book, before, [], True, (order, changes))
                self.assertEqual(book.anew(), places("B1 C1 D1" + (" E1 F1 G1" if any(changes) else "")))

    def test_circles_come_and_go(self):
        for entries in itertools.permutations([("A1", "=IF(D1,B1,1)"), ("B1", "=C1"), ("C1", "=A1+1"), ("D1", "1")]):
            logged = Logged()
            book = Book(logged)
            before = Snapshot(book)
            for word, text in list(entries) + [("D1", "0"), ("D1", "1"), ("C1", "4"), ("C1", "=A1"), ("B1", "=B1"),
                ("A1", "=B1"), ("B1", "2")]:
                logged.calls = []
                book.put(0, *at(word), text)
                before = check_deed(self, book, before, logged.calls, False, (entries, word, text))


if __name__ == "__main__":
    unittest.main()
