"""Tests of [15] to [17] and [19] to [21]: formulas read as trees, and their faults."""

import itertools
import random
import re
import unittest

from sheetworks.errors import Fault
from sheetworks.library import COUNTS
from sheetworks.numbers import read_amount, shown_amount
from sheetworks.parsing import read_formula
from sheetworks.tokens import tokens
from sheetworks.trees import depth, nodes
from sheetworks.writing import write_formula

SHEETS = ((0, "MAIN"), (3, "X_1"), (7, "PLAN"))
EMPTY = ("empty",)
OPERATORS = {"=": 1, "<>": 1, "<": 1, "<=": 1, ">": 1, ">=": 1, "&": 2, "+": 3, "-": 3, "*": 4,
             "/": 4, "^": 5}


def number(n):
    return ("number", n * 1000000)


ONE, TWO, THREE = number(1), number(2), number(3)
A1 = ("cell", None, 0, 0, False, False)
B2 = ("cell", None, 1, 1, False, False)
X = ("name", "X")


def name(word):
    return ("name", word)


def sign(which, tree):
    return ("sign", which, tree)


def binary(operator, left, right):
    return ("binary", operator, left, right)


def applied(tree, *arguments):
    return ("apply", tree, arguments)


def call(word, *arguments):
    return ("call", word, arguments)


def read(text):
    return read_formula(text, SHEETS)


def fault(text):
    """The place of the fault, or None."""
    try:
        read(text)
    except Fault as told:
        return told.at
    return None


class Case(unittest.TestCase):
    def check_trees(self, table):
        for text, tree in table:
            self.assertEqual(read(text), tree, text)

    def check_faults(self, table):
        for text, at in table:
            self.assertEqual(fault(text), at, text)

    def check_marks(self, *marked):
        """The fault of each text is at the mark, which is taken out of it."""
        for text in marked:
            at = text.index("~")
            self.assertEqual(fault(text[:at] + text[at + 1:]), at, text)

    def check_read(self, *texts):
        for text in texts:
            self.assertIsNone(fault(text), text)


class Operators(Case):
    def test_each_beside_each_other(self):
        for first, second in itertools.product(OPERATORS, repeat=2):
            if OPERATORS[first] < OPERATORS[second]:
                tree = binary(first, ONE, binary(second, TWO, THREE))
            else:
                tree = binary(second, binary(first, ONE, TWO), THREE)
            self.assertEqual(read(f"=1{first}2{second}3"), tree)
            bracketed = binary(first, ONE, binary(second, TWO, THREE))
            self.assertEqual(read(f"=1{first}(2{second}3)"), bracketed)

    def test_rows_of_three(self):
        for row in itertools.product(OPERATORS, repeat=3):
            text = "=1" + "".join([operator + "2" for operator in row])
            self.assertEqual(read(text), read("=" + self.grouped(row)))

    def grouped(self, row):
        """The row with brackets round each of its operations."""
        parts = ["1"] + ["2"] * len(row)
        row = list(row)
        for rank in (5, 4, 3, 2, 1):
            at = 0
            while at < len(row):
                if OPERATORS[row[at]] == rank:
                    parts[at:at + 2] = [f"({parts[at]}{row.pop(at)}{parts[at + 1]})"]
                else:
                    at += 1
        return parts[0]

    def test_told_ones(self):
        self.check_trees([
            ("=2^3^2", binary("^", binary("^", TWO, THREE), TWO)),
            ("=-2^2", binary("^", sign("-", TWO), TWO)),
            ("=1=2=3", binary("=", binary("=", ONE, TWO), THREE)),
            ("=2^-2", binary("^", TWO, sign("-", TWO))),
            ("=-(2^2)", sign("-", binary("^", TWO, TWO))),
            ("=1-2-3", binary("-", binary("-", ONE, TWO), THREE)),
            ("= 1 <> 2", binary("<>", ONE, TWO))])
        self.check_marks("=1< ~>2", "=1~!2", "=1~,", "=1~;2", "=1 ~:2")

    def test_signs(self):
        self.check_trees([
            ("=+-+1", sign("+", sign("-", sign("+", ONE)))),
            ("=- 1", sign("-", ONE)),
            ("=1--1", binary("-", ONE, sign("-", ONE))),
            ("=-X(1)", sign("-", applied(X, ONE))),
            ("=-(1)(2)", sign("-", applied(ONE, TWO)))])
        self.check_marks("=~*1", "=1+~*2", "=-~", "=1+~", "=-~=1")

    def test_a_long_row_of_signs(self):
        for row in ("+-" * 8, "-" * 16):
            for ahead in ("", "1", "(", "X(", "{1}*", "-1-"):
                close = ")" if ahead.endswith("(") else ""
                operator = "-" if ahead == "1" else ""
                # 16 signs and what they stand ahead of are 17 deep, so what is told is 0.
                text = "=" + ahead + operator + row + "1" + close
                self.assertEqual(fault(text), 0, text)
                begin = len("=" + ahead + operator) + 16
                text = "=" + ahead + operator + row + "+1" + close
                self.assertEqual(fault(text), begin, text)
        self.check_read("=" + "-" * 15 + "1")
        # A bracket or an operator begins a new row.
        self.assertEqual(fault("=" + "-" * 10 + "(" + "-" * 10 + "1)"), 0)
        self.assertEqual(fault("=" + "-" * 16 + "(" + "-" * 16 + "1)"), 0)
        self.assertEqual(fault("=" + "-" * 16 + "(" + "-" * 17 + "1)"), 34)
        self.assertEqual(fault("=" + "-" * 16 + "1^" + "-" * 17 + "1"), 35)
        self.check_read("=" + "-" * 14 + "1+" + "-" * 14 + "1")

    def test_brackets_round_each_kind(self):
        for part in ("1", '"x"', "#NA!", "TRUE", "A1", "A1:B2", "1:2", "A:B", "PLAN!A1", "X", "X(1)",
                     "SUM(1)", "{1}", "LET(X,1,X)", "LAMBDA(1)", "-1", "1+2"):
            tree = read("=" + part)
            self.assertEqual(read(f"=({part})"), tree)
            self.assertEqual(read(f"=(( {part} ))"), tree)
            self.assertEqual(read(f"=({part})(1)"), applied(tree, ONE))
            self.assertEqual(read(f"=({part})*2"), binary("*", tree, TWO))
        self.check_marks("=(~)", "=(1~", "=(1~,2)", "=1~)", "=((1)~", "=(1~}", "=~)")


class Words(Case):
    def test_constants(self):
        self.check_trees([
            ("=1.5", ("number", 1500000)), ("=007", number(7)), ('="a""b"', ("text", 'a"b')),
            ('=""', ("text", "")), ("=#ref!", ("error", "REF")), ("=true", ("truth", True)),
            ("=False", ("truth", False)), ("=0.0000005", number(0)),
            ("=0.0000015", ("number", 2))])
        for word in "DIV VALUE REF NAME NUM NA CALC SIZE LIMIT".split():
            self.assertEqual(read(f"=#{word}!"), ("error", word))
        self.check_marks("=~#CIRC!", "=~1234567890123456", '="a~')

    def test_texts_that_look_like_signs_and_words(self):
        for part in ("+", "-", "(", ")", "{", ",", "=", "TRUE", "LET", "1", "A1", "!", ":"):
            self.assertEqual(read(f'="{part}"'), ("text", part))
            self.assertEqual(read(f'={{"{part}"}}'), ("array", ((("text", part),),)))
            self.check_marks(f'=1 ~"{part}" 1', f'=X ~"{part}" 1)', f'=X(1 ~"{part}" 2)', f'=A1 ~"{part}" A2',
                             f'={{1 ~"{part}" 2}}', f'={{-~"{part}"}}', f'={{1 ~"{part}"')

    def test_names(self):
        self.check_trees([
            ("=x", X), ("=abcdefgh", name("ABCDEFGH")), ("=abcdefghi", name("ABCDEFGHI")),
            ("=abcdefghijkl", name("ABCDEFGHIJKL")), ("=a.b", name("A.B")), ("=a_1", name("A_1")),
            ("=let", name("LET")), ("=Lambda", name("LAMBDA")), ("=sum", name("SUM")),
            ("=A21", name("A21")), ("=A01", name("A01")), ("=K1", name("K1")), ("=A", name("A")),
            ("=TRUE1", name("TRUE1"))])
        self.check_marks("=~abcdefghijklm", "=1+~abcdefghijklm(")

    def test_truth_values_are_no_words(self):
        self.check_trees([
            ("=TRUE(1)", applied(("truth", True), ONE)), ("=false()", applied(("truth", False))),
            ("=TRUE+1", binary("+", ("truth", True), ONE))])
        self.check_marks("=TRUE~!A1", "=false ~!A1", "=TRUE(~")

    def test_cells(self):
        self.check_trees([
            ("=A1", A1), ("=j20", ("cell", None, 19, 9, False, False)),
            ("=$B3", ("cell", None, 2, 1, False, True)), ("=B$3", ("cell", None, 2, 1, True, False)),
            ("=$B$3", ("cell", None, 2, 1, True, True)),
            ("=plan!$b$3", ("cell", 7, 2, 1, True, True)),
            ("=X_1 ! A1", ("cell", 3, 0, 0, False, False))])

    def test_ranges(self):
        def area(sheet, *numbers):
            return ("range", sheet, *numbers)
        self.check_trees([
            ("=A1:B2", area(None, 0, 0, 1, 1, False, False, False, False)),
            ("=B2:A1", area(None, 0, 0, 1, 1, False, False, False, False)),
            ("=A2:B1", area(None, 0, 0, 1, 1, False, False, False, False)),
            ("=$B1:A$2", area(None, 0, 0, 1, 1, False, False, True, True)),
            ("=B$2:$A1", area(None, 0, 0, 1, 1, False, True, True, False)),
            ("=$A1:A$1", area(None, 0, 0, 0, 0, False, True, True, False)),
            ("=A$1:$A1", area(None, 0, 0, 0, 0, True, False, False, True)),
            ("=A1 : A1", area(None, 0, 0, 0, 0, False, False, False, False)),
            ("=Main!J20:$A$1", area(0, 0, 0, 19, 9, True, True, False, False))])
        self.check_marks("=A1:~", "=A1:~B", "=A1:~1", "=A1:~X1", "=A1:B2~:C3", "=A1:~MAIN!B2", "=A~:B2",
                         "=A1:~(B2)", "=X~:A1", "=(A1)~:B2", "=A1:~1:2", "=A1:~A:B")

    def test_rows_and_columns(self):
        self.check_trees([
            ("=1:2", ("rows", None, 0, 1, False, False)), ("=2:1", ("rows", None, 0, 1, False, False)),
            ("=$2:1", ("rows", None, 0, 1, False, True)), ("=$2:2", ("rows", None, 1, 1, True, False)),
            ("=3:$3", ("rows", None, 2, 2, False, True)), ("=1:$20", ("rows", None, 0, 19, False, True)),
            ("=$B:A", ("columns", None, 0, 1, False, True)),
            ("=a:$j", ("columns", None, 0, 9, False, True)),
            ("=$C:C", ("columns", None, 2, 2, True, False)),
            ("=plan!2:$1", ("rows", 7, 0, 1, True, False)),
            ("=PLAN!$B:$A", ("columns", 7, 0, 1, True, True))])
        self.check_marks("=1:2~:3", "=A:B~:C", "=1~:21", "=0~:1", "=A~:K", "=1 ~: 2")

    def test_sheets(self):
        self.check_marks("=~NOPE!A1", "=1+~NOPE!A1", "=~MAINS!A1", "=A1~!A1", "=PLAN!~", "=PLAN!~X", "=PLAN!~1",
                         "=PLAN!~TRUE", "=PLAN!~(A1)", "=PLAN!~PLAN!A1", "=PLAN!A1~!B1", '=PLAN!~"A1"',
                         "=~SUM!A1", "=~NOPE!", "=~NOPE!!", '=~NOPE!"')
        # The fault at the word is met at the sign behind it, not earlier.
        self.check_marks("=NOPE ~|", "=NOPE~,", "=NOPE~|!")

    def test_sheets_stay(self):
        sheets = [(0, "MAIN"), (5, "Q")]
        tree = read_formula("=Q!A1+MAIN!A1", sheets)
        self.assertEqual(sheets, [(0, "MAIN"), (5, "Q")])
        self.assertEqual([tree[2][1], tree[3][1]], [5, 0])
        self.assertEqual(read_formula(text="=q!A1", sheets=sheets)[1], 5)
        self.assertEqual(read_formula("=1", ()), ONE)

    def test_blanks(self):
        self.assertEqual(read("=  SUM (  1 ,  , a1 : b2 )  "), read("=SUM(1,,A1:B2)"))
        self.assertEqual(read("= { 1 , - 2 ; TRUE , #NA! } "), read("={1,-2;TRUE,#NA!}"))
        # A cell right behind which a bracket stands is a word.
        self.assertEqual(read("=A1(1)"), applied(name("A1"), ONE))
        self.assertEqual(read("=A1 (1)"), applied(A1, ONE))


class Calls(Case):
    def test_calls_of_calls(self):
        self.check_trees([
            ("=X(1)", applied(X, ONE)), ("=X()", applied(X)),
            ("=X(1)(2)()", applied(applied(applied(X, ONE), TWO))),
            ("=SUM(1)(2)", applied(call("SUM", ONE), TWO)),
            ("=X(X(1))", applied(X, applied(X, ONE))),
            ("=(SUM)(1)", applied(name("SUM"), ONE)), ("=(LET)(1)", applied(name("LET"), ONE)),
            ("=1(2)", applied(ONE, TWO)), ('="a"(1)', applied(("text", "a"), ONE)),
            ("={1}(2)", applied(("array", ((ONE,),)), TWO)),
            ("=#NA!(1)", applied(("error", "NA"), ONE)),
            ("=1:2(3)", applied(("rows", None, 0, 1, False, False), THREE)),
            ("=A.B(1)", applied(name("A.B"), ONE)),
            ("=abcdefghi(1)", applied(name("ABCDEFGHI"), ONE)),
            ("=A1:B2 (1)",
             applied(("range", None, 0, 0, 1, 1, False, False, False, False), ONE)),
            ("=A:B (1)", applied(("columns", None, 0, 1, False, False), ONE)),
            ("=PLAN!A1 (1)", applied(("cell", 7, 0, 0, False, False), ONE))])
        self.check_marks("=PLAN!~A1(1)", "=A1:~B2(1)", "=A~:B(1)")

    def test_missing_arguments(self):
        self.check_trees([
            ("=X(,)", applied(X, EMPTY, EMPTY)), ("=X(1,)", applied(X, ONE, EMPTY)),
            ("=X(,1)", applied(X, EMPTY, ONE)), ("=X(1,,2)", applied(X, ONE, EMPTY, TWO)),
            ("=X( )", applied(X)), ("=X(,,)", applied(X, EMPTY, EMPTY, EMPTY)),
            ("=IF(,,)", call("IF", EMPTY, EMPTY, EMPTY)), ("=NA( )", call("NA"))])
        self.check_marks("=X(~;)", "=X(1~;2)", "=X(1 ~2)", "=X(,~", "=X(1,~", "=X(~", "=X(1~", "=X(,~;)")

    def test_sixteen_arguments(self):
        for word in ("X", "SUM", "IFS", "(1)"):
            many = [one[2] for one in [read(f"={word}({','.join(['1'] * 16)})")]][0]
            self.assertEqual(many, (ONE,) * 16)
            self.assertEqual(len(read(f"={word}({',' * 15})")[2]), 16)
            for row in (["1"] * 17, [""] * 17, ["1"] * 16 + ["~~"]):
                comma = len(f"={word}(" + ",".join(row[:16]))
                self.assertEqual(fault(f"={word}({','.join(row)})"), comma)
        self.check_marks("=LET(" + "X,1," * 7 + "X,1~,1)", "=ABS(" + "1," * 15 + "1~,")

    def test_counts_of_library_functions(self):
        for word, (least, greatest) in COUNTS.items():
            for many in range(0, 17):
                text = f"=1+{word}({','.join(['2'] * many)})"
                self.assertEqual(fault(text), None if least <= many <= greatest else 3, text)
        # What is wrong is met at the closing bracket: behind its arguments, ahead of what follows.
        self.check_marks("=~ABS(1,2)", "=~ABS()", "=~ABS(1,2)|", "=ABS(1,2,~|)", "=ABS(1,2~", "=ABS(1,2~;)",
                         "=ABS(~ABS(1,2),3)", "=~ABS(1,)", "=~NA(,)", "=~abs(1,2) 3", "=~ABS()1234567890123456")

    def test_let(self):
        self.check_trees([
            ("=LET(x,1,x)", ("let", ("X",), (ONE,), X)),
            ("=let(x,,)", ("let", ("X",), (EMPTY,), EMPTY)),
            ("=LET(x,1,y,x,y)", ("let", ("X", "Y"), (ONE, X), name("Y"))),
            ("=LET(x,1,X,2,x)", ("let", ("X", "X"), (ONE, TWO), X))])
        for many in range(0, 17):
            text = "=LET(" + ",".join(["x"] * many) + ")"
            self.assertEqual(fault(text), None if many in (3, 5, 7, 9, 11, 13, 15) else 1, text)

    def test_words_that_let_binds(self):
        wrong = ("", "(x)", "1", "A1", "abcdefghi", "a.b", "SUM", "x(1)", "-x", "x+1", "TRUE", "let",
                 "LAMBDA", "{1}", "#NA!", '"x"', "1:2", "A:B", "PLAN!A1", "x(1)+1", "((x))", "SUM(1)")
        for one in wrong:
            for ahead in ("", "y,1,", "y,1,z,,"):
                text = f"=LET({ahead}{one},2,3)"
                self.assertEqual(fault(text), len("=LET(" + ahead), text)
        for one in ("x", "abcdefgh", "x_1", "K1", "A21", "J", " x "):
            self.check_read(f"=LET({one},2,3)")
        # The first wrong one; a wrong number goes ahead; both are met at the bracket.
        self.check_marks("=LET(~1,1,2,2,3)", "=LET(x,1,~2,2,3)", "=~LET(1,1)", "=~LET(1,1,2,2)",
                         "=LET(1,1,1,~|)", "=LET(~1,1,1)|", "=LET(~,,)", "=LET(  ~,,)",
                         "=LET(1,1,~ABS(),2)", "=LET(x,1,~,2,3)", "=LET(~1,1,1) 5")

    def test_lambda(self):
        self.check_trees([
            ("=LAMBDA(1)", ("lambda", (), ONE)), ("=lambda(x,x)", ("lambda", ("X",), X)),
            ("=LAMBDA(x,y,)", ("lambda", ("X", "Y"), EMPTY)), ("=LAMBDA(x,)", ("lambda", ("X",), EMPTY)),
            ("=LAMBDA(x,x)(1)", applied(("lambda", ("X",), X), ONE))])
        words = list("pqrstuvwx")
        for many in range(0, 12):
            text = "=LAMBDA(" + ",".join((words + ["y", "z"])[:many]) + ")"
            self.assertEqual(fault(text), None if 1 <= many <= 9 else 1, text)
        self.check_marks("=LAMBDA(~1,1)", "=LAMBDA(x,~(y),1)", "=LAMBDA(x,~X,1)", "=LAMBDA(abc,b,~aBc,1)",
                         "=LAMBDA(x,~x,x,1)", "=LAMBDA(x,~SUM,1)", "=LAMBDA(~,1)", "=LAMBDA(x,~,1)", "=~LAMBDA()",
                         "=LAMBDA(x,~A1,x,1)", "=LAMBDA(x,~x,1,1)", "=LAMBDA(x,x~", "=LAMBDA(~x(1),1)",
                         "=LAMBDA(~abcdefghi,1)")
        self.check_read("=LAMBDA(x,x)", "=LAMBDA(SUM)", "=LAMBDA((x))")


class Arrays(Case):
    def test_arrays(self):
        self.check_trees([
            ("={1}", ("array", ((ONE,),))), ("={-1}", ("array", ((number(-1),),))),
            ("={1,2;3,1}", ("array", ((ONE, TWO), (THREE, ONE)))),
            ('={"a",#NA!,TRUE,false}',
             ("array", ((("text", "a"), ("error", "NA"), ("truth", True), ("truth", False)),))),
            ("={- 1}", ("array", ((number(-1),),))), ("={-0}", ("array", ((number(0),),)))])

    def test_wrong_constants(self):
        self.check_marks("={~}", "={~+1}", "={~X}", "={~A1}", "={~(1)}", "={~,1}", "={1,~}", "={1;~}", "={1,~,2}",
                         "={-~-1}", '={-~"a"}', "={-~TRUE}", "={-~}", "={-~", "={~", "={1~", "={1~)", "={1~+1}",
                         "={1 ~2}", "={~{1}}", "={TRUE~(1)}", "={~SUM(1)}", "={~1:2}", "={#NA!~!}",
                         "={~1234567890123456}", "={1 ~: 2}", "={-~1234567890123456}")

    def test_rows_of_unlike_length(self):
        self.check_marks("={1,2;1,2~,3}", "={1;1~,2}", "={1,2;1~}", "={1,2;1~;1,2}", "={1,2,3;1,2~;1}",
                         "={1,2;1 ~}", "={1,2;1,2;1~}", "={1,2;3~", "={1,2;3~)")

    def test_sizes(self):
        self.assertEqual(len(read("={" + ";".join(["1"] * 20) + "}")[1]), 20)
        self.assertEqual(len(read("={" + ",".join(["1"] * 20) + "}")[1][0]), 20)
        self.check_marks("={" + ";".join(["1"] * 20) + "~;1}", "={" + ",".join(["1"] * 20) + "~,1}",
                         "={" + ";".join(["1"] * 20) + "~;|", "={" + ",".join(["1"] * 20) + "~,|")
        for wide, high in ((4, 16), (8, 8), (16, 4), (20, 3), (13, 4), (9, 7), (3, 20), (12, 5)):
            row = ",".join(["1"] * wide)
            full = ";".join([row] * high)
            self.assertEqual(len(read("={" + full + "}")[1]), high)
            left = 64 - wide * high
            if left == 0:
                self.check_marks("={" + full + "~;1}")
            elif left < wide and high < 20:
                more = ",".join(["1"] * left)
                self.check_marks("={" + full + ";" + more + "~,1}", "={" + full + ";" + more + "~;1}",
                                 "={" + full + ";" + more + "~}")
        self.check_marks("={" + ";".join(["1,1,1"] * 20) + "~;1,1,1}")


class Faults(Case):
    def test_what_can_not_begin(self):
        for part in ("*", "/", "^", "&", "=", "<>", "<", ">=", ")", "}", ",", ";", ":", "!"):
            for ahead in ("", "1+", "(", "-", "X(1,"):
                if (ahead, part) in (("X(1,", ","), ("X(1,", ")")):
                    continue
                text = "=" + ahead + part + "1"
                self.assertEqual(fault(text), len("=" + ahead), text)

    def test_what_can_not_follow(self):
        follows = ("1", '"a"', "#NA!", "X", "A1", "1:2", "A:B", "TRUE", "{1}", "}", ";", ")", ",", ":", "!")
        for one in ("1", '"a"', "#NA!", "A1", "1:2", "A:B", "TRUE", "{1}", "X(1)", "SUM(1)", "(1)"):
            for part in follows:
                if one == "A1" and part == ":":
                    continue
                text = "=" + one + " " + part
                self.assertEqual(fault(text), len("=" + one + " "), text)

    def test_at_the_end(self):
        for text in ("=", "= ", "=1+", "=1+ ", "=(", "=(1", "=X(", "=X(1", "=X(1,", "={", "={1", "={1,",
                     "={1;", "={-", "=-", "=A1:", "=PLAN!", "=LET(x,1", "=SUM(1 "):
            self.assertEqual(fault(text), len(text), text)

    def test_tokens_at_fault(self):
        # Such a token tells its own fault also where no token could stand.
        self.check_marks("=1 ~|", "=1 ~1234567890123456", "=1 ~abcdefghijklm", '=1 "a~', "=~|", "=X(~|", "={~|",
                         "=A1:~|", "=PLAN!~|", "={1 ~|", "=1 ~#CIRC!", "=-~|", '=1 ~"' + "a" * 65 + '"')
        # An earlier token that can not stand goes ahead.
        self.check_marks("=1 ~2 |", '=1 ~2 "a', "=~) |", "=X(1 ~2 |", "={1 ~2 |", "=~*1234567890123456", "=~,|",
                         "=TRUE~!|", "=~NOPE!|", "={1,2;1~;|", "=1 ~X |")

    def test_brackets(self):
        self.check_read("=" + "(" * 16 + "1" + ")" * 16, "=1" + "+(1)" * 14, "=SUM(" + "(1)," * 15 + "(1))",
                        "=" + "(" * 15 + "(1)+(1)" + ")" * 15,
                        "=" + "(" * 15 + "X(1)" + ")" * 15, "=" + "X(" * 15 + "1" + ")" * 15)
        for ahead in ("(" * 16, "X(" * 16, "SUM(" * 16, "(" * 8 + "X(1,LET(X,1," * 4,
                      "(1)+(" + "X()+(" * 15):
            # Brackets that are closed do not count.
            text = "=" + ahead
            self.check_marks(text + "~(1", text + "X~(1", text + "1~(1", text + "LAMBDA~(1", text + "~(|")
        self.check_marks("=" + "(" * 15 + "(1)~", "=" + "(" * 15 + "(1)(1~", "=" + "(" * 16 + "1)~",
                         "=" + "(" * 16 + "1)(2~")
        self.check_marks("=" + "(" * 16 + "{1}~(1)")

    def test_limits(self):
        self.check_read("=" + "+".join(["SUM(1,1,1,1,1,1,1)"] * 7))
        row = "X" + "(1)" * 15
        self.assertEqual(depth(read("=" + row)), 16)
        self.assertEqual(fault("=" + row + "(1)"), 0)
        tree = read("=" + "-" * 15 + "1")
        self.assertEqual(depth(tree), 16)
        wide = "SUM(" + ",".join(["1"] * 15) + ")"
        sums = "SUM(" + ",".join([wide] * 3 + ["1"] * 13) + ")"
        self.assertEqual(nodes(read("=" + sums)), 62)
        more = "SUM(" + ",".join([wide] * 3 + ["-1"] * 2 + ["1"] * 11) + ")"
        self.assertEqual(nodes(read("=" + more)), 64)
        more = "SUM(" + ",".join([wide] * 3 + ["-1"] * 3 + ["1"] * 10) + ")"
        self.assertEqual(fault("=" + more), 0)
        # Last of all: a fault anywhere goes ahead.
        self.assertEqual(fault("=" + more + ")"), len(more) + 1)
        self.assertEqual(fault("=" + "1+" * 5000), 10001)

    def test_long_texts(self):
        for text in ("1" + "+1" * 5000, "1" + "^1" * 5000, "X" + "(1)" * 5000, "X" + "()" * 5000,
                     "(1)" + "*(1)" * 5000, "1" + "--1" * 3000, "1" + "=(-1)" * 3000, "1" + "&X(1)" * 3000,
                     "LET(x,1,x)" + "(2)" * 3000, "SUM(1,2)" + "+SUM(1,2)" * 3000):
            self.assertEqual(fault("=" + text), 0)
            self.assertEqual(fault("=" + text + "+"), len(text) + 2)
            self.assertEqual(fault("=" + text + ")"), len(text) + 1)
        self.assertEqual(fault("=" + "(" * 5000), 17)
        self.assertEqual(fault("=" + "-" * 5000), 17)
        self.assertEqual(fault("=" + "X(" * 5000), 34)

    def test_by_all_sentences(self):
        """The fault of plain tokens is the first one with which no sentence begins."""
        most = 9
        texts = {many: set() for many in range(most + 1)}
        operands = {many: set() for many in range(most + 1)}
        brackets = {many: set() for many in range(most + 1)}
        lists = {many: set() for many in range(most + 1)}

        def joined(first, second, many, between=()):
            left = many - len(between)
            return {a + tuple(between) + b for k in range(0, left + 1) for a in first[k] for b in second[left - k]}
        for many in range(1, most + 1):
            # Arguments: none, or some joined by commas, of which each may be missing.
            items = {k: texts[k] | ({()} if k == 0 else set()) for k in range(many)}
            lists[many - 1] = joined(items, items, many - 1, ",") | joined(lists, items, many - 1, ",")
            if many >= 2:
                inner = lists[many - 2] | texts[many - 2] | ({()} if many == 2 else set())
                brackets[many] = {("(", *one, ")") for one in inner}
            found = {("1",), ("X",)} if many == 1 else set()
            found |= {("(", *one, ")") for one in texts[many - 2]} if many > 2 else set()
            found |= joined(operands, brackets, many)
            calls = found
            operands[many] = calls
            signs = {("-",) * k + one for k in range(0, many) for one in operands[many - k]}
            texts[many] = signs | self.with_operators(texts, operands, many)
        begun = {one[:k] for many in texts for one in texts[many] for k in range(many + 1)}
        for many in range(1, 5):
            for row in itertools.product(("1", "X", "(", ")", ",", "-"), repeat=many):
                text = "=" + " ".join(row)
                if row in texts[many]:
                    self.assertIsNone(fault(text), text)
                    continue
                wrong = [k for k in range(many) if row[:k + 1] not in begun]
                self.assertEqual(fault(text), 1 + 2 * wrong[0] if wrong else len(text), text)

    def with_operators(self, texts, operands, many):
        """Rows of two and more operands; a minus stands between."""
        found = set()
        for k in range(1, many - 1):
            for left in texts[k]:
                for ahead in range(0, many - k - 1):
                    for right in operands[many - k - 1 - ahead]:
                        found.add(left + ("-",) * (1 + ahead) + right)
        return found


class RoundTrips(Case):
    def drawn(self, draw, deep):
        """The text of a formula, drawn, with brackets and blanks that may not be needed."""
        kinds = ["1", "0.5", "X", "TRUE", "#NA!", '"a""b"', "A1", "$B$2", "B2:$A1", "2:$1", "B:A", "plan!A1",
                 "X_1!3:2", "{1,-2;TRUE,\"x\"}", "foo", "{-0.5}", "1.50", "LET", "sum"]
        if deep == 0:
            return draw.choice(kinds)
        part = [self.drawn(draw, draw.randrange(deep)) for _ in range(3)]
        way = draw.randrange(10)
        if way < 3:
            return part[0] + draw.choice(list(OPERATORS)) + part[1]
        if way == 3:
            return draw.choice("+-") + part[0]
        if way == 4:
            return f"({part[0]})"
        if way == 5:
            return f"( {part[0]} )({part[1]},)"
        if way == 6:
            return f"sum({part[0]}, {part[1]},,{part[2]})"
        if way == 7:
            return f"LET(x,{part[0]}, y,{part[1]},{part[2]})"
        if way == 8:
            return f"LAMBDA(x,{part[0]})({part[1]})"
        return f"F({part[0]})({part[1]})"

    def formulas(self):
        draw = random.Random(5)
        found = []
        while len(found) < 1500:
            text = "=" + self.drawn(draw, draw.randrange(1, 5))
            if fault(text) is None:
                found.append(text)
        return found

    def test_there_and_back(self):
        for text in self.formulas():
            tree = read(text)
            written = write_formula(tree, SHEETS)
            self.assertEqual(read(written), tree, text)
            self.assertEqual(write_formula(read(written), SHEETS), written)
            self.assertEqual(self.bare(written), self.bare(text), text)

    def bare(self, text):
        """The tokens but brackets, with numbers and corners as [20] lets them be told."""
        found = [token for token in tokens(text) if (token[0], token[3]) not in (("sign", "("), ("sign", ")"))]
        told = []
        for kind, _, _, what in found:
            told.append(self.told(kind, what))
            if [one[0] for one in told[-3:]] == ["cell", "sign", "cell"] and told[-2][1] == ":":
                told[-3:] = [self.range_told(told[-3][1], told[-1][1])]
        return told

    def range_told(self, first, last):
        """The columns and the rows of two corners, each with its mark, in order."""
        corners = [re.fullmatch("([$]?[A-J])([$]?[0-9]+)", one).groups() for one in (first, last)]
        columns = sorted([column for column, _ in corners], key=lambda one: one[-1])
        return ("range", columns, sorted([row for _, row in corners], key=lambda one: int(one.strip("$"))))

    def told(self, kind, what):
        if kind == "number":
            return ("number", shown_amount(read_amount(what)))
        if kind in ("rows", "columns"):
            return (kind, tuple(sorted(what.split(":"), key=lambda part: part.lstrip("$"))))
        return (kind, what)

    def test_no_brackets_too_many(self):
        for text in self.formulas()[:500]:
            tree = read(text)
            written = write_formula(tree, SHEETS)
            for opened, closed in self.pairs(written):
                less = written[:opened] + " " + written[opened + 1:closed] + " " + written[closed + 1:]
                try:
                    left = read(less)
                except Fault:
                    continue
                if left == tree:
                    # Such a pair stands round what is called.
                    self.assertEqual(written[closed + 1:closed + 2], "(", written)

    def pairs(self, written):
        """The places of the pairs of round brackets."""
        found, waiting = [], []
        for kind, at, _, what in tokens(written):
            if kind == "sign" and what == "(":
                waiting.append(at)
            if kind == "sign" and what == ")":
                found.append((waiting.pop(), at))
        return found

    def test_corners(self):
        for first, last in itertools.product(("A1", "$A1", "A$1", "$A$1", "B2", "$B2", "B$2", "$B$2", "A2", "B$1"),
                                             repeat=2):
            tree = read(f"={first}:{last}")
            written = write_formula(tree, SHEETS)
            self.assertEqual(read(written), tree)
            _, _, top, left, bottom, right = tree[:6]
            self.assertTrue(top <= bottom and left <= right)
            self.assertEqual(sorted(written[1:].replace(":", "")), sorted(first + last))


if __name__ == "__main__":
    unittest.main()
