"""Tests of [39] to [43], [61] and [63]: sheets, cells, blocks, names, and what is told of them."""

import unittest

from sheetworks.book import Book
from sheetworks.errors import BadName, BadPlace, BadText, BlockCut, Fault, NoRoom, NothingThere, WorkError
from sheetworks.evaluation import evaluated
from sheetworks.states import saved
from tests.oracle import Logged

CIRCLE = ("error", "CIRC")


def number(n):
    return ("number", n * 1000000)


def refusal(deed, *arguments):
    """The error of a call as (kind, what it keeps), or None."""
    try:
        deed(*arguments)
    except WorkError as told:
        return (told.__class__, *vars(told).values())
    return None


def book_of(*entries):
    """A book with texts in cells of its first sheet, each told as (word, text)."""
    book = Book()
    for word, text in entries:
        book.put(0, *at(word), text)
    return book


def at(word):
    return int(word[1:]) - 1, "ABCDEFGHIJ".index(word[0])


class Case(unittest.TestCase):
    def check_refused(self, book, deed, arguments, wanted):
        """A call that raises changes nothing."""
        state = (saved(book), book.journal(), book.anew(), book.changed(), book.undo_depth(), book.redo_depth())
        self.assertEqual(refusal(getattr(book, deed), *arguments), wanted, (deed, arguments))
        self.assertEqual((saved(book), book.journal(), book.anew(), book.changed(), book.undo_depth(),
            book.redo_depth()), state)


class NewBooks(Case):
    def test_new(self):
        book = Book()
        self.assertEqual(book.sheets(), ((0, "MAIN"),))
        self.assertEqual((book.names(), book.journal(), book.anew(), book.changed()), ((), "", (), ()))
        self.assertEqual((book.undo_depth(), book.redo_depth()), (0, 0))
        for row in range(20):
            for column in range(10):
                self.assertEqual(book.value(0, row, column), ("empty",))
                self.assertEqual((book.text(0, row, column), book.shown(0, row, column)), ("", ""))
                self.assertEqual((book.reads(0, row, column), book.block_of(0, row, column)), ((), None))

    def test_results_of_deeds(self):
        book = Book()
        for word, arguments in (("put", (0, 0, 0, "1")), ("put_block", (0, 1, 1, 2, 2, "=1")),
                                ("define", ("X", "=1")), ("undefine", ("X",)), ("clear", (0, 0, 0, 3, 3)),
                                ("copy", (0, 0, 0, 1, 1, 0, 1, 1)), ("cut", (0, 0, 0, 1, 1, 0, 1, 1)),
                                ("fill_down", (0, 0, 0, 2, 2)), ("fill_right", (0, 0, 0, 2, 2)),
                                ("sort_rows", (0, 0, 0, 2, 2, 0, False)),
                                ("insert_rows", (0, 0, 1)), ("insert_columns", (0, 0, 1)), ("delete_rows", (0, 0, 1)),
                                ("delete_columns", (0, 0, 1)), ("add_sheet", (0, "P")), ("rename_sheet", (0, "Q")),
                                ("move_sheet", (0, 1)), ("drop_sheet", (1,)), ("begin", ()), ("commit", ()),
                                ("begin", ()), ("abort", ())):
            self.assertIsNone(getattr(book, word)(*arguments), word)
        self.assertIs(book.undo(), True)
        self.assertIs(book.redo(), True)
        self.assertIs(book.redo(), False)
        self.assertIs(Book().undo(), False)

    def test_example(self):
        book = Book()
        book.put(0, 0, 0, "4")
        book.put(0, 1, 0, "=A1*A1+1")
        self.assertEqual(book.value(0, 1, 0), number(17))
        book.insert_rows(0, 0, 1)
        self.assertEqual(book.text(0, 2, 0), "=A2*A2+1")

    def test_arguments_by_name(self):
        book = Book(evaluate=None)
        book.put(sheet=0, row=0, column=0, text="1")
        book.put_block(sheet=0, row=5, column=5, height=2, width=1, text="=A1")
        book.define(name="X", text="=1")
        book.clear(sheet=0, row=9, column=9, height=1, width=1)
        book.copy(sheet=0, row=0, column=0, height=1, width=1, to_sheet=0, to_row=1, to_column=1)
        book.cut(sheet=0, row=0, column=0, height=1, width=1, to_sheet=0, to_row=2, to_column=2)
        book.fill_down(sheet=0, row=1, column=1, height=2, width=1)
        book.fill_right(sheet=0, row=1, column=1, height=1, width=2)
        book.sort_rows(sheet=0, row=0, column=0, height=2, width=2, key=0, falling=True)
        book.insert_rows(sheet=0, at=0, many=1)
        book.insert_columns(sheet=0, at=0, many=1)
        book.delete_rows(sheet=0, at=0, many=1)
        book.delete_columns(sheet=0, at=0, many=1)
        book.add_sheet(at=0, name="P")
        book.rename_sheet(at=0, name="Q")
        book.move_sheet(at=0, to=1)
        book.drop_sheet(at=1)
        self.assertEqual(book.probe(sheet=0, text="=1"), (number(1), ()))
        self.assertEqual(book.definition(name="x"), "=1")
        for word in ("text", "value", "shown", "reads", "readers", "circle", "block_of"):
            getattr(book, word)(sheet=0, row=0, column=0)
        book.undefine(name="X")


class Putting(Case):
    def test_kinds(self):
        for text, value, told in (("", ("empty",), ""), ("12", number(12), "12"),
                                  (" 1.50 ", ("number", 1500000), "1.5"), ("-3", number(-3), "-3"),
                                  ("+3", number(3), "3"),
                                  ("true", ("truth", True), "TRUE"), ("FALSE", ("truth", False), "FALSE"),
                                  ("#na!", ("error", "NA"), "#NA!"), ("#LIMIT!", ("error", "LIMIT"), "#LIMIT!"),
                                  ("#CIRC!", ("text", "#CIRC!"), "#CIRC!"), ("#circ!", ("text", "#circ!"), "#circ!"),
                                  ("abc", ("text", "abc"), "abc"), ("=", ("text", "="), "="),
                                  ("'", ("text", ""), "'"), ("'12", ("text", "12"), "'12"),
                                  ("'abc", ("text", "abc"), "abc"), ("'=1", ("text", "=1"), "'=1"),
                                  ("'=", ("text", "="), "="), ("''", ("text", "'"), "''"),
                                  ("'TRUE", ("text", "TRUE"), "'TRUE"), ("'#NA!", ("text", "#NA!"), "'#NA!"),
                                  ("'#CIRC!", ("text", "#CIRC!"), "#CIRC!"), ("' ", ("text", " "), " "),
                                  (" ", ("text", " "), " "), ("' 1 ", ("text", " 1 "), "' 1 "),
                                  ("1 2", ("text", "1 2"), "1 2"), (" TRUE", ("text", " TRUE"), " TRUE"),
                                  ("''a", ("text", "'a"), "''a"), (" =1", ("text", " =1"), " =1"),
                                  ("#FOO!", ("text", "#FOO!"), "#FOO!"), ("#!", ("text", "#!"), "#!"),
                                  ("#NA", ("text", "#NA"), "#NA"), ("'=1+", ("text", "=1+"), "'=1+"),
                                  ("=1+1", number(2), "=1+1"), ("= sum( 1 ,2)", number(3), "=SUM(1,2)"),
                                  ("1234567890123456", ("text", "1234567890123456"), "1234567890123456"),
                                  ("\"x\"", ("text", "\"x\""), "\"x\""), ("=\"a\"", ("text", "a"), "=\"a\""),
                                  ("=J9", number(0), "=J9"), ("={1,2}", number(1), "={1,2}"),
                                  ("#REF!", ("error", "REF"), "#REF!"), ("=#REF!", ("error", "REF"), "=#REF!"),
                                  ("0.0000001", number(0), "0")):
            book = book_of(("B2", text))
            self.assertEqual(book.value(0, 1, 1), value, text)
            self.assertEqual(book.text(0, 1, 1), told, text)
            again = book_of(("B2", told))
            self.assertEqual((again.value(0, 1, 1), again.text(0, 1, 1)), (value, told), text)

    def test_signs_and_lengths(self):
        book = book_of(("A1", "7"))
        for text, wanted in (("a\n", (BadText, 1)), ("a%", (BadText, 1)), ("%", (BadText, 0)),
                             ("\u00e4", (BadText, 0)), ("=1+\t", (BadText, 3)), ("x" * 65, (BadText, 64)),
                             ("x" * 96, (BadText, 64)),
                             ("x" * 97, (BadText, 96)), ("x" * 95 + "%", (BadText, 95)),
                             ("x" * 96 + "%", (BadText, 96)),
                             ("x" * 97 + "%", (BadText, 96)), ("'" + "x" * 65, (BadText, 65)),
                             ("'" + "x" * 96, (BadText, 96)), ("=" + "1" * 96, (BadText, 96)), ("=1+", (Fault, 3)),
                             ("=" + "(" * 95, (Fault, 17)), ("=1%", (BadText, 2)), ("=FOO!A1", (Fault, 1)),
                             ("=1 2", (Fault, 3)), ("=\"" + "x" * 65 + "\"", (Fault, 1)),
                             ("'%", (BadText, 1)), ("\x7f", (BadText, 0)), ("=1+1+" + "+" * 20, (Fault, 21)),
                             ("9" * 65, (BadText, 64)), (" " * 65, (BadText, 64)),
                             ("=" + "-" * 16 + "1", (Fault, 0))):
            self.check_refused(book, "put", (0, 0, 0, text), wanted)
        for text in ("x" * 64, "'" + "x" * 64, "=" + "1+" * 10 + "1" + " " * 74, " " * 95 + "1", "~", " "):
            book.put(0, 0, 0, text)
        self.assertEqual(book.value(0, 0, 0), ("text", " "))

    def test_the_longest(self):
        formula = "=1" + "+1" * 10
        book = book_of(("A1", formula + " " * (96 - len(formula))))
        self.assertEqual(book.value(0, 0, 0), number(11))
        self.check_refused(book, "put", (0, 0, 0, formula + " " * (97 - len(formula))), (BadText, 96))
        self.assertEqual(book_of(("A1", "'" + "y" * 64)).text(0, 0, 0), "y" * 64)
        self.assertEqual(book_of(("A1", "''" + "y" * 63)).text(0, 0, 0), "''" + "y" * 63)

    def test_places(self):
        book = book_of(("A1", "7"))
        for arguments, wanted in (((1, 0, 0), 0), ((-1, 0, 0), 0), ((0, 20, 0), 1), ((0, -1, 0), 1), ((0, 0, 10), 2),
            ((0, 0, -1), 2), ((1, 20, 10), 0), ((0, 20, 10), 1)):
            for word in ("text", "value", "shown", "reads", "readers", "circle", "block_of"):
                self.check_refused(book, word, arguments, (BadPlace, wanted))
            self.check_refused(book, "put", (*arguments, "=1+"), (BadPlace, wanted))
            self.check_refused(book, "clear", (*arguments, 0, 0), (BadPlace, wanted))
            self.check_refused(book, "put_block", (*arguments, 0, 0, "%"), (BadPlace, wanted))
        for arguments, wanted in (((0, 0, 0, 0, 1), 3), ((0, 0, 0, -1, 1), 3), ((0, 19, 0, 2, 1), 3),
            ((0, 0, 0, 21, 1), 3), ((0, 0, 0, 1, 0), 4), ((0, 0, 9, 1, 2), 4), ((0, 0, 0, 1, 11), 4),
            ((0, 0, 0, 0, 0), 3)):
            for word, more in (("clear", ()), ("put_block", ("=1",)), ("fill_down", ()), ("fill_right", ()),
                ("sort_rows", (0, False)), ("copy", (0, 0, 0)), ("cut", (0, 0, 0))):
                self.check_refused(book, word, (*arguments, *more), (BadPlace, wanted))
        book.put(0, 19, 9, "1")
        book.clear(0, 0, 0, 20, 10)
        self.assertEqual(book.value(0, 19, 9), ("empty",))

    def test_what_looks_like_an_error(self):
        for text in ("XDIV!", "#DIV", "DIV", "#DIV?", "#DIV!!", "##DIV!", "#", "!", "#DI!", "#CIRC", "# NA!"):
            book = book_of(("A1", text))
            self.assertEqual((book.value(0, 0, 0), book.text(0, 0, 0)), (("text", text), text))
        for word in "DIV VALUE REF NAME NUM NA CALC SIZE LIMIT".split():
            self.assertEqual(book_of(("A1", f"#{word.lower()}!")).value(0, 0, 0), ("error", word))

    def test_cells_beside_stay(self):
        book = Book()
        words = [column + str(row) for row in range(2, 5) for column in "BCD"]
        for word in words:
            book.put(0, *at(word), word)
        for text in ("1", "=1", ""):
            book.put(0, *at("C3"), text)
            self.assertEqual([word for word in words if book.text(0, *at(word)) != word], ["C3"])
        self.assertIsNone(book_of(("A1", "=1")).block_of(0, 0, 0))

    def test_over_one_another(self):
        book = book_of(("A1", "7"), ("A1", "=1+1"), ("A1", "x"))
        self.assertEqual(book.text(0, 0, 0), "x")
        book.put(0, 0, 0, "")
        self.assertEqual(book.text(0, 0, 0), "")

    def test_texts_with_new_names_of_sheets(self):
        book = Book()
        book.add_sheet(1, "P")
        book.put(0, 0, 0, "=p!a1+MAIN!B1")
        self.assertEqual(book.text(0, 0, 0), "=P!A1+MAIN!B1")
        book.rename_sheet(1, "Long_one")
        self.assertEqual(book.text(0, 0, 0), "=LONG_ONE!A1+MAIN!B1")


class Blocks(Case):
    def test_results(self):
        for text, height, width, rows in (("=5", 2, 2, [[5, 5], [5, 5]]), ("={1,2}", 2, 2, [[1, 2], [1, 2]]),
            ("={1;2}", 2, 2, [[1, 1], [2, 2]]), ("={1,2,3;4,5,6}", 2, 2, [[1, 2], [4, 5]]),
            ("={1,2;3,4}", 3, 3, [[1, 2, "NA"], [3, 4, "NA"], ["NA"] * 3]),
                                          ("={1,2}", 2, 3, [[1, 2, "NA"], [1, 2, "NA"]]),
                                          ("={1;2}", 3, 2, [[1, 1], [2, 2], ["NA", "NA"]]),
                                          ("=#REF!", 1, 2, [["REF", "REF"]]), ("=J19:J20", 2, 1, [[0], [0]])):
            book = Book()
            book.put_block(0, 3, 2, height, width, text)
            for i in range(height):
                for j in range(width):
                    told = rows[i][j]
                    self.assertEqual(book.value(0, 3 + i, 2 + j),
                        ("error", told) if isinstance(told, str) else number(told), text)
                    self.assertEqual(book.text(0, 3 + i, 2 + j), text)
                    self.assertEqual(book.block_of(0, 3 + i, 2 + j), (3, 2, height, width))
            for cell in ((2, 2), (3, 1), (3 + height, 2), (3, 2 + width)):
                self.assertIsNone(book.block_of(0, *cell))
                self.assertEqual(book.value(0, *cell), ("empty",))

    def test_sizes(self):
        book = Book()
        for height, width, wanted in ((1, 1, (BadPlace, 3)), (13, 5, (BadPlace, 3)), (20, 10, (BadPlace, 3)),
            (7, 10, (BadPlace, 3)), (0, 1, (BadPlace, 3)), (1, 0, (BadPlace, 4)), (1, 11, (BadPlace, 4)),
            (21, 1, (BadPlace, 3)), (1, 2, None), (2, 1, None), (8, 8, None), (16, 4, None), (20, 3, None),
            (6, 10, None)):
            self.assertEqual(refusal(book.put_block, 0, 0, 0, height, width, "=1"), wanted, (height, width))
            book.clear(0, 0, 0, 20, 10)

    def test_texts(self):
        book = Book()
        for text, wanted in (("=1%", (BadText, 2)), ("%", (BadText, 0)), ("x" * 97, (BadText, 96)),
            ("1", (BadText, 0)), ("", (BadText, 0)), ("=", (BadText, 0)), ("'=1", (BadText, 0)),
            ("x" * 65, (BadText, 0)), ("=1+", (Fault, 3)), (" =1", (BadText, 0))):
            self.check_refused(book, "put_block", (0, 0, 0, 2, 2, text), wanted)
            self.check_refused(book, "probe", (0, text), wanted)
            self.check_refused(book, "define", ("X", text), wanted)
        self.check_refused(book, "put_block", (0, 0, 0, 1, 1, "=1+"), (BadPlace, 3))
        self.check_refused(book, "probe", (1, "%"), (BadPlace, 0))

    def test_blocks_that_are_cut(self):
        book = Book()
        book.put_block(0, 2, 2, 2, 2, "=1")
        book.put_block(0, 2, 5, 1, 3, "=2")
        for row, column in ((2, 2), (3, 3), (2, 3), (3, 2)):
            for text in ("1", "", "=1"):
                self.check_refused(book, "put", (0, row, column, text), (BlockCut, 0, 2, 2))
        self.check_refused(book, "put", (0, 2, 2, "=1+"), (Fault, 3))
        for area, wanted in (((0, 0, 3, 3), (BlockCut, 0, 2, 2)), ((3, 3, 1, 1), (BlockCut, 0, 2, 2)),
            ((2, 3, 1, 3), (BlockCut, 0, 2, 2)), ((2, 6, 1, 1), (BlockCut, 0, 2, 5)),
            ((2, 2, 2, 4), (BlockCut, 0, 2, 5)), ((0, 0, 20, 10), None), ((2, 2, 2, 2), None), ((0, 0, 2, 10), None)):
            for word, more in (("clear", ()), ("put_block", ("=3",))):
                if wanted is not None and (word == "clear" or area[2] * area[3] > 1):
                    self.check_refused(book, word, (0, *area, *more), wanted)
        book.put_block(0, 1, 1, 4, 4, "=3")
        self.assertEqual((book.block_of(0, 2, 2), book.block_of(0, 2, 5)), ((1, 1, 4, 4), (2, 5, 1, 3)))
        book.clear(0, 1, 1, 4, 9)
        self.assertIsNone(book.block_of(0, 2, 5))
        self.assertEqual(saved(book), saved(Book()))

    def test_the_first_one_that_is_cut(self):
        book = Book()
        book.put_block(0, 5, 0, 1, 2, "=1")
        book.put_block(0, 4, 3, 3, 1, "=1")
        book.put_block(0, 5, 1 + 4, 1, 2, "=1")
        self.check_refused(book, "clear", (0, 5, 1, 1, 5), (BlockCut, 0, 4, 3))
        self.check_refused(book, "clear", (0, 5, 4, 1, 2), (BlockCut, 0, 5, 5))
        book.add_sheet(0, "P")
        self.check_refused(book, "clear", (1, 5, 1, 1, 5), (BlockCut, 1, 4, 3))

    def test_blocks_over_cells(self):
        book = book_of(("A1", "1"), ("B2", "=A1"))
        book.put_block(0, 0, 0, 2, 2, "=C1")
        self.assertEqual([book.text(0, i, j) for i in range(2) for j in range(2)], ["=C1"] * 4)


class Names(Case):
    def test_defining(self):
        book = Book()
        book.define("foo", "= main!$a$1 + 1")
        self.assertEqual((book.names(), book.definition("FoO")), (("FOO",), "=MAIN!$A$1+1"))
        book.put(0, 1, 0, "=FOO*2")
        self.assertEqual(book.value(0, 1, 0), number(2))
        book.define("FOO", "=10")
        self.assertEqual((book.value(0, 1, 0), book.definition("foo")), (number(20), "=10"))
        book.undefine("fOO")
        self.assertEqual((book.value(0, 1, 0), book.names()), (("error", "NAME"), ()))
        for name in ("foo", "BAR", "", "1", "not a name"):
            self.check_refused(book, "undefine", (name,), (NothingThere, name))
            self.check_refused(book, "definition", (name,), (NothingThere, name))

    def test_wrong_names(self):
        book = Book()
        for name in ("", "1A", "A1", "j20", "true", "LET", "lambda", "sum", "abcdefghi", "a.b", "a b", "\u00e4",
            "_x"):
            self.check_refused(book, "define", (name, "%"), (BadName, name))
        for name in ("A", "K1", "A21", "abcdefgh", "x_1"):
            book.define(name, "=1")
        self.assertEqual(book.names(), ("A", "A21", "ABCDEFGH", "K1", "X_1"))

    def test_references(self):
        book = Book()
        for text, wanted in (("=A1", Fault), ("=$A$1", Fault), ("=MAIN!A1", Fault), ("=MAIN!$A1", Fault),
                             ("=MAIN!A$1", Fault), ("=MAIN!$A$1", None), ("=MAIN!$A$1:B$2", Fault),
                             ("=MAIN!$A$1:$B2", Fault),
                             ("=MAIN!$A1:$B$2", Fault), ("=MAIN!A$1:$B$2", Fault), ("=MAIN!$A$1:$B$2", None),
                             ("=MAIN!1:$2", Fault), ("=MAIN!$1:2", Fault), ("=MAIN!$1:$2", None),
                             ("=MAIN!$A:B", Fault), ("=MAIN!A:$B", Fault), ("=MAIN!$A:$B", None), ("=$A:$B", Fault),
                             ("=$1:$2", Fault), ("=LAMBDA(x,LET(y,MAIN!$A$1,x+MAIN!A1))", Fault),
                             ("=SUM(MAIN!$A$1,-A1)", Fault), ("=1+X", None), ("=INDIRECT(\"A1\")", None)):
            self.assertEqual(refusal(book.define, "X", text), None if wanted is None else (Fault, 0), text)

    def test_twelve(self):
        book = Book()
        for k in range(12):
            book.define(f"N{k}_", f"={k}")
        self.check_refused(book, "define", ("M", "=1"), (NoRoom, "names"))
        self.check_refused(book, "define", ("M", "=A1"), (Fault, 0))
        self.check_refused(book, "define", ("1", "=1"), (BadName, "1"))
        book.define("n5_", "=55")
        self.assertEqual(book.definition("N5_"), "=55")
        self.assertEqual(book.names(), ("N0_", "N10_", "N11_", "N1_", "N2_", "N3_", "N4_", "N5_", "N6_", "N7_", "N8_",
            "N9_"))
        book.undefine("N0_")
        book.define("M", "=1")

    def test_names_and_sheets(self):
        book = Book()
        book.define("MAIN", "=MAIN!$A$1")
        book.put(0, 0, 0, "5")
        book.put(0, 0, 1, "=MAIN+MAIN!A1")
        self.assertEqual(book.value(0, 0, 1), number(10))
        book.add_sheet(1, "X")
        book.define("X", "=2")
        book.rename_sheet(0, "Y")
        self.assertEqual((book.text(0, 0, 1), book.definition("MAIN")), ("=MAIN+Y!A1", "=Y!$A$1"))

    def test_the_own_sheet(self):
        book = Book()
        book.add_sheet(1, "P")
        book.define("HERE", "=INDIRECT(\"A1\")")
        book.put(0, 0, 0, "1")
        book.put(1, 0, 0, "2")
        for sheet in (0, 1):
            book.put(sheet, 1, 1, "=HERE")
            self.assertEqual(book.value(sheet, 1, 1), number(1 + sheet))


class Told(Case):
    def test_reads(self):
        book = book_of(("A1", "1"), ("B1", "=A1+C1+A1"), ("C1", "=NOPE"), ("D1", "=INDIRECT(\"main!A1\")"))
        self.assertEqual(book.reads(0, 0, 1), (("cell", 0, 0, 0), ("cell", 0, 0, 2)))
        self.assertEqual(book.reads(0, 0, 2), (("name", "NOPE"),))
        self.assertEqual(book.reads(0, 0, 3), (("sheet", "MAIN"), ("cell", 0, 0, 0)))
        self.assertEqual((book.reads(0, 0, 0), book.reads(0, 9, 9)), ((), ()))
        book.put_block(0, 5, 5, 2, 2, "=A1")
        for i, j in ((5, 5), (5, 6), (6, 5), (6, 6)):
            self.assertEqual(book.reads(0, i, j), (("cell", 0, 0, 0),))

    def test_shown(self):
        book = book_of(("A1", "1.50"), ("A2", "=A3"), ("A3", "=A2"), ("A4", "=1=1"), ("A5", "'x"), ("A6", "=1/0"))
        self.assertEqual([book.shown(0, i, 0) for i in range(7)],
            ["1.5", "#CIRC!", "#CIRC!", "TRUE", "x", "#DIV!", ""])

    def test_probes(self):
        book = book_of(("A1", "1"), ("A2", "=A3"), ("A3", "=A2"))
        book.add_sheet(1, "P")
        state = saved(book), book.journal(), book.anew(), book.changed()
        for sheet, text, wanted in ((0, "=A1+1", (number(2), (("cell", 0, 0, 0),))),
                                    (1, "=A1", (number(0), (("cell", 1, 0, 0),))), (0, "={1,2}",
                                    (("array", 1, 2, (number(1), number(2))), ())), (0, "=A1+A2+A1",
                                    (CIRCLE, (("cell", 0, 0, 0), ("cell", 0, 1, 0)))),
                                    (0, "=IFERROR(A2,1)", (CIRCLE, (("cell", 0, 1, 0),))),
                                    (0, "=FOO", (("error", "NAME"), (("name", "FOO"),))),
                                    (0, "=INDIRECT(\"p!A1\")", (number(0), (("sheet", "P"), ("cell", 1, 0, 0)))),
                                    (0, "=LAMBDA(1)", (("error", "CALC"), ())),
                                    (1, "=MAIN!A1", (number(1), (("cell", 0, 0, 0),)))):
            self.assertEqual(book.probe(sheet, text), wanted, text)
        self.assertEqual((saved(book), book.journal(), book.anew(), book.changed()), state)
        self.check_refused(book, "probe", (2, "=1"), (BadPlace, 0))
        self.check_refused(book, "probe", (0, "=NOPE!A1"), (Fault, 1))

    def test_readers(self):
        book = book_of(("A1", "1"), ("B2", "=A1"), ("B1", "=SUM(A1:A3)"), ("C1", "=IF(A1,2,A2)"))
        book.add_sheet(0, "P")
        book.put(0, 5, 5, "=MAIN!A1")
        book.put_block(0, 7, 7, 2, 2, "=MAIN!A1:B2")
        self.assertEqual(book.readers(1, 0, 0), ((0, 5, 5), (0, 7, 7), (1, 0, 1), (1, 0, 2), (1, 1, 1)))
        self.assertEqual(book.readers(1, 1, 0), ((0, 7, 7), (1, 0, 1)))
        self.assertEqual(book.readers(0, 7, 8), ())
        book.put(1, 9, 9, "=P!I8")
        self.assertEqual(book.readers(0, 7, 8), ((1, 9, 9),))
        book.move_sheet(0, 1)
        self.assertEqual(book.readers(0, 1, 0), ((0, 0, 1), (1, 7, 7)))


class Evaluating(Case):
    def test_own_function(self):
        logged = Logged()
        book = Book(logged)
        book.put(0, 0, 0, "1")
        self.assertEqual(logged.calls, [])
        book.put(0, 1, 0, "=A1+1")
        self.assertEqual([(own, result) for _, own, result in logged.calls], [(0, number(2))])
        logged.calls = []
        for word, arguments in (("value", (0, 1, 0)), ("text", (0, 1, 0)), ("shown", (0, 1, 0)), ("reads", (0, 1, 0)),
                                ("probe", (0, "=A1+A2")), ("anew", ()), ("changed", ()), ("readers", (0, 0, 0)),
                                ("circle", (0, 0, 0)),
                                ("sheets", ()), ("names", ()), ("journal", ()),
                                ("undo_depth", ()), ("redo_depth", ()), ("block_of", (0, 0, 0)), ("begin", ()),
                                ("commit", ())):
            getattr(book, word)(*arguments)
            self.assertEqual(logged.calls, [], word)
        saved(book)
        book.put(0, 5, 5, "3")
        book.move_sheet(0, 0)
        self.assertEqual(logged.calls, [])

    def test_what_it_tells(self):
        def doubled(tree, own, world):
            result, reads = evaluated(tree, own, world)
            return (("number", 2 * result[1]) if result is not None and result[0] == "number" else result, reads)
        book = Book(doubled)
        book.put(0, 0, 0, "=3")
        book.put(0, 0, 1, "=A1+1")
        self.assertEqual((book.value(0, 0, 0), book.value(0, 0, 1)), (number(6), number(14)))
        # A probe is worked out by evaluated.
        self.assertEqual(book.probe(0, "=A1+1")[0], number(7))

    def test_keys(self):
        book = Book()
        book.add_sheet(1, "p")
        book.add_sheet(0, "Q")
        self.assertEqual(book.sheets(), ((2, "Q"), (0, "MAIN"), (1, "P")))
        book.drop_sheet(0)
        book.undo()
        book.undo()
        book.add_sheet(0, "r")
        self.assertEqual(book.sheets(), ((3, "R"), (0, "MAIN"), (1, "P")))
        book.begin()
        book.add_sheet(0, "s")
        book.abort()
        book.add_sheet(3, "t")
        self.assertEqual(book.sheets(), ((3, "R"), (0, "MAIN"), (1, "P"), (5, "T")))


if __name__ == "__main__":
    unittest.main()
