"""Tests of [29] to [36]: nodes, words, what is read, and the limits."""

import unittest

from sheetworks.evaluation import evaluated
from tests.helping import (EMPTY, SCALE, TOP, FormulaCase, Told, cells_read, error, is_limited, levels_of, number,
                           padded, read, result, scalar, steps_of, value, world)

CELLS = FormulaCase.CELLS
LIMIT = error("LIMIT")


class Nodes(FormulaCase):
    def test_constants(self):
        self.check(("=1.5", number("1.5")), ('="a"', "a"), ("=TRUE", True), ("=#REF!", "#REF"), ("={1}", 1),
                   ("={1,2;3,4}", [[1, 2], [3, 4]]), ('={"a";#NA!}', [["a"], ["#NA"]]), ('=""', ""))

    def test_areas(self):
        self.check(("=A1", 5), ("=A1:B2", [[5, 2], ["x", "7"]]), ("=J9", 0), ("=A1:A1", 5), ("=1:1", [
            [5, 2, -3] + [0] * 7]), ("=A4", "#DIV"), ("=C1:D1", [[-3, 0]]), ("=$A$2", "x"))
        self.assertEqual(result("=A:C")[1:3], (20, 3))
        self.assertEqual(result("=1:6")[1:3], (6, 10))
        self.check(("=1:7", "#SIZE"), ("=A:D", "#SIZE"), ("=A1:J7", "#SIZE"), ("=A1:D17", "#SIZE"))
        self.assertEqual(result("=A1:D16")[1:3], (16, 4))
        self.check_reads(("=A1:B2", "A1 B1 A2 B2"), ("=A:D", ""), ("=A1:D17", ""), ("=A1", "A1"), ("=A1:A1", "A1"))
        self.assertEqual(len(cells_read("=A1:D16").split()), 64)

    def test_sheets(self):
        a_world = Told({(0, 0, 0): number(1), (7, 0, 0): number(2)})
        for formula, own, told in (("=A1", 0, 1), ("=A1", 7, 2), ("=MAIN!A1", 7, 1), ("=PLAN!A1", 0, 2),
            ("=A1", 5, 0)):
            self.assertEqual(evaluated(read(formula), own, a_world)[0], number(told))
        self.assertEqual(evaluated(tree=read("=PLAN!A1:A2"), own=0, world=a_world),
                         (value([[2], [0]]), (("cell", 7, 0, 0), ("cell", 7, 1, 0))))

    def test_signs(self):
        self.check(("=-A1", -5), ("=+A1", 5), ("=--A3", 1), ("=+A3", 1), ("=-B2", -7), ("=-A2", "#VALUE"),
                   ("=+A2", "#VALUE"),
                   ("=-A4", "#DIV"), ("=+#NA!", "#NA"), ("=-{1,TRUE,\"x\";\"2\",#NA!,0}",
                   [[-1, -1, "#VALUE"], [-2, "#NA", 0]]),
                   ("=+A1:B2", [[5, 2], ["#VALUE", 7]]), ("=-J9", 0), ('=-""', "#VALUE"), ("=-LAMBDA(1)", "#CALC"),
                   ("=-A:J", "#SIZE"), (f"=-{TOP // SCALE}.999999", ("number", -TOP)))
        self.check_reads(("=-A1:B2", "A1 B1 A2 B2"))

    def test_arithmetic(self):
        self.check(("=1+2", 3), ("=1-2", -1), ("=2*3.5", 7), ("=7/2", number("3.5")), ("=2^10", 1024),
                   ("=1/0", "#DIV"),
                   ("=0^-1", "#DIV"), ("=2^0.5", "#NUM"), ("=999999999999999*2", "#NUM"), ('="3"+TRUE', 4),
                   ('="x"+1', "#VALUE"),
                   ('=1+"x"', "#VALUE"), ("=J9+1", 1), ("=J9/J8", "#DIV"), ('=#NA!+"x"', "#NA"), ('="x"+#NA!', "#NA"),
                   ("=#REF!+#NA!", "#REF"), ('="x"/0', "#VALUE"), ("=999999999999999+1", "#NUM"), ('=""+1', "#VALUE"),
                   ("=2/3", ("number", 666667)), ("=1-J9", 1), ("=LAMBDA(1)+1", "#CALC"), ("=1+LAMBDA(1)", "#CALC"),
                   ("=A:J+1", "#SIZE"), ("=10/-4", number("-2.5")), ("=#DIV!&#REF!", "#DIV"), ("=1=#REF!", "#REF"))

    def test_joining(self):
        self.check(('="a"&"b"', "ab"), ("=1&2.5", "12.5"), ("=TRUE&J9", "TRUE"), ("=J9&J9", ""), ("=#NA!&1", "#NA"),
                   (f'="{"a" * 32}"&"{"b" * 32}"', "a" * 32 + "b" * 32), (f'="{"a" * 32}"&"{"b" * 33}"', "#VALUE"),
                   ("=-0.5&\"\"", "-0.5"), ('=1&#REF!', "#REF"))

    def test_comparing(self):
        operators = ("=", "<>", "<", "<=", ">", ">=")
        for left, right, wanted in (("1", "2", (0, 1, 1, 1, 0, 0)), ("2", "2", (1, 0, 0, 1, 0, 1)),
                                    ("3", "2", (0, 1, 0, 0, 1, 1)), ('"a"', '"A"', (1, 0, 0, 1, 0, 1)),
                                    ("9", '"1"', (0, 1, 1, 1, 0, 0)), ("TRUE", '"z"', (0, 1, 0, 0, 1, 1)),
                                    ("J9", "0", (1, 0, 0, 1, 0, 1)), ("J9", '""', (1, 0, 0, 1, 0, 1)),
                                    ("FALSE", "J9", (1, 0, 0, 1, 0, 1)), ("J9", "J8", (1, 0, 0, 1, 0, 1)),
                                    ("J9", "1", (0, 1, 1, 1, 0, 0)), ('"b"', '"ab"', (0, 1, 0, 0, 1, 1))):
            for operator, told in zip(operators, wanted):
                self.check((f"={left}{operator}{right}", bool(told)))
        self.check(("=#NA!=#NA!", "#NA"), ('="x"<#REF!', "#REF"), ("=1=1=TRUE", True), ("=3>2>1", True))

    def test_member_by_member(self):
        self.check(("={1,2}+{10;20}", [[11, 12], [21, 22]]), ("={1,2}*2", [[2, 4]]), ("=2^{1;2}", [[2], [4]]),
                   ("={1,2,3}+{1,2}", [[2, 4, "#NA"]]), ("={1,2;3,4}={1,5;3,4}", [[True, False], [True, True]]),
                   ("={1,#REF!}+{#NA!,#DIV!}", [["#NA", "#REF"]]),
                   ("={1;2}&{\"a\",\"b\"}", [["1a", "1b"], ["2a", "2b"]]),
                   ("=A1:A2&B1:C1", [["52", "5-3"], ["x2", "x-3"]]), ("=A1:A13+A1:E1", "#SIZE"),
                   ("={1,2,3;4,5,6}+{1,2;3,4;5,6}", [[2, 4, "#NA"], [7, 9, "#NA"], ["#NA"] * 3]))
        self.check_reads(("=B1+A1", "B1 A1"), ("=A1:B1+A4:A5", "A1 B1 A4 A5"), ("=#NA!+A1", "A1"),
                         ("=A4/A1", "A4 A1"),
                         ("=A1:A13+A1:E1", " ".join([f"A{k}" for k in range(1, 14)]) + " B1 C1 D1 E1"))

    def test_results(self):
        self.check(("=J9", 0), ("=J8:J9", [[0], [0]]), ("=IF(TRUE,)", 0), ("=LAMBDA(1)", "#CALC"),
                   ("=A1:B1", [[5, 2]]),
                   ("=FOO", "#NAME"), ("=IF(TRUE,A2)", "x"), ("=HSTACK(J9,A2)", [[0, "x"]]), ('=""', ""))
        self.assertEqual(evaluated(EMPTY, 0, world()), (number(0), ()))


class Words(FormulaCase):
    def test_names(self):
        names = {"ONE": "=1", "AREA": "=MAIN!$A$1:$B$1", "FN": "=LAMBDA(x,x*2)", "TWICE": "=ONE+ONE", "SELF": "=SELF",
                 "OTHER": "=SELF", "CELL": "=MAIN!$A$1", "WRONG": "=NOWHERE", "X": "=100"}
        self.check(("=ONE", 1), ("=one+1", 2), ("=AREA", [[5, 2]]), ("=SUM(AREA)", 7), ("=FN(4)", 8),
                   ("=FN", "#CALC"),
                   ("=TWICE", 2), ("=SELF", "#LIMIT"), ("=OTHER", "#LIMIT"), ("=CELL", 5), ("=ROWS(AREA)", 1),
                   ("=NOWHERE", "#NAME"),
                   ("=WRONG", "#NAME"), ("=A.B", "#NAME"), ("=LET", "#NAME"), ("=SUM", "#NAME"), ("=SUM+1", "#NAME"),
                   ("=(SUM)(1)", "#NAME"), ("=NOWHERE(1)", "#NAME"), ("=ISREF(CELL)", True), ("=OFFSET(CELL,0,1)", 2),
                   names=names)
        self.check_reads(("=ONE+one", "name:ONE"), ("=TWICE+A1", "name:TWICE name:ONE A1"),
                         ("=NOWHERE", "name:NOWHERE"),
                         ("=AREA", "name:AREA A1 B1"), ("=A.B+SUM", "name:A.B name:SUM"),
                         ("=WRONG", "name:WRONG name:NOWHERE"),
                         ("=LET(x,1,x)", ""), ("=LET(x,A1,ONE)", "name:ONE"), names=names)

    def test_own_sheet_in_names(self):
        a_world = Told({(7, 0, 0): number(9)}, names={"FN": read("=LAMBDA(r,ROW(INDIRECT(r))+SUM(INDIRECT(r)))")})
        self.assertEqual(evaluated(read('=FN("A1")'), 7, a_world)[0], number(10))

    def test_bound_words(self):
        names = {"X": "=100", "GET": "=X", "FN": "=LAMBDA(y,X+y)"}
        self.check(("=LET(x,1,x)", 1), ("=LET(x,1,y,x+1,x*y+y)", 4), ("=LET(x,1,LET(x,2,x)+x)", 3),
                   ("=LET(x,1,x,x+1,x)", 2),
                   ("=LET(x,X,x+1)", 101), ("=LET(y,x,x,1,y)", 100), ("=LET(x,1,GET)", 100), ("=LET(x,1,FN(1))", 101),
                   ("=LET(x,y,y,1,x)", "#NAME"), ("=LET(x,,x)", 0), ("=LET(x,,ISBLANK(x))", True), ("=LET(x,1,)", 0),
                   ("=LET(x,{1,2},x+x)", [[2, 4]]), ("=LET(f,LAMBDA(a,a+1),f(f(1)))", 3),
                   ("=LET(x,1,x,x+1,x,x*5,x)", 10),
                   ("=LET(x,1,(x)+x)", 2), names=names)
        self.check(("=LET(r,A1:B1,ROWS(r)+SUM(r))", 8), ("=LET(r,A1,ISREF(r))", True),
                   ("=LET(r,A1,OFFSET(r,0,1))", 2),
                   ("=LET(r,A4,1)", 1), ("=LET(e,#NA!,1)", 1), ("=LET(e,NOWHERE,2)", 2))
        # A reference that is bound is read where it is used.
        self.check_reads(("=LET(r,A4,1)", ""), ("=LET(r,B1,A1+r+r)", "A1 B1"), ("=LET(e,NOWHERE,2)", "name:NOWHERE"))

    def test_functions(self):
        self.check(("=LAMBDA(x,y,x-y)(5,3)", 2), ("=LAMBDA(7)()", 7), ("=LAMBDA(x,x)()", "#VALUE"),
                   ("=LAMBDA(7)(1)", "#VALUE"),
                   ("=LAMBDA(x,x)(1,2)", "#VALUE"), ("=LAMBDA(x,y,x)(1)", "#VALUE"),
                   ("=LAMBDA(x,y,ISBLANK(y)&x)(1,)", "TRUE1"),
                   ("=LAMBDA(x,LAMBDA(y,x*10+y))(1)(2)", 12), ("=LET(x,1,f,LAMBDA(y,x+y),x,100,f(1))", 2),
                   ("=LET(x,1,LAMBDA(x,x)(5)+x)", 6), ("=LET(f,LAMBDA(x,x),f(A1:B1))", [[5, 2]]),
                   ("=LAMBDA(f,f(3))(LAMBDA(x,x*x))", 9), ("=LAMBDA(x,ISREF(x))(A1)", True), ("=LAMBDA(x,)(1)", 0),
                   ("=LET(y,1,f,LAMBDA(x,LET(y,2,x+y)),f(10)+y)", 13), ("=LAMBDA(x,LAMBDA(x,x))(1)(2)", 2),
                   ("=LET(a,1,f,LAMBDA(b,a),LET(a,2,f(0)))", 1), ("=IF(TRUE,LAMBDA(x,x+1))(1)", 2))

    def test_what_can_not_be_called(self):
        self.check(("=1(2)", "#VALUE"), ("=#NA!(2)", "#NA"), ("=A1 (2)", "#VALUE"), ("=A4 (2)", "#VALUE"),
                   ('="a"(1)', "#VALUE"),
                   ("={1,2}(1)", "#VALUE"), ("=A1:B2 (1)", "#VALUE"), ("=TRUE(1)", "#VALUE"),
                   ("=NOWHERE(A1)", "#NAME"),
                   ("=(1/0)(A1)", "#DIV"), ("=LET(x,,x(1))", "#VALUE"), ("={#NA!,1}(1)", "#VALUE"),
                   ("=IF(TRUE,)(1)", "#VALUE"))
        # What is called is evaluated first, then the arguments; a reference is not read.
        self.check_reads(("=A1 (A2+1,B1)", "A2"), ("=#NA!(B1+1,A1+A2)", "B1 A1 A2"), ("=(A1+1)(B1+1)", "A1 B1"),
                         ("=X(A1+0)", "name:X A1"),
                         ("=LAMBDA(x,1)(A1+1,B1+1)", "A1 B1"), ("=LAMBDA(x,1)(A1)", ""))


class Worlds(FormulaCase):
    def test_what_is_asked(self):
        self.check_reads(("=B1+A1+B1", "B1 A1"), ('=INDIRECT("plan!A1")', "sheet:PLAN cell"),
            ('=INDIRECT("nope!A1")', "sheet:NOPE"))

    def check_reads(self, *table, **more):
        for formula, told in table:
            if told.endswith(" cell"):
                reads = evaluated(read(formula), 0, world(CELLS))[1]
                self.assertEqual(reads, (("sheet", "PLAN"), ("cell", 7, 0, 0)))
            else:
                super().check_reads((formula, told), **more)

    def test_unknown_cells(self):
        for formula, reads in (("=A1", "A1"), ("=A1+B1", "A1"), ("=B1+A1+C1", "B1 A1"), ("=IFERROR(A1,2)", "A1"),
                               ("=SUM(B1:B2,A1,C1)", "B1 B2 A1"),
                               ("=IF(B1,A1,C1)", "B1 A1"), ("=LET(x,A1,B1+x)", "B1 A1"), ("=A1:B1", "A1"),
                               ("=ISERROR(A1)", "A1")):
            self.assertIsNone(result(formula, CELLS, ["A1"]), formula)
            self.check_reads((formula, reads), unknown=["A1"])
        for formula, told in (("=IF(B1,7,A1)", 7), ("=LET(x,A1,7)", 7), ("=ROW(A1)", 1), ("=ISREF(A1)", True),
            ("=A1:J20", error("SIZE"))):
            self.assertEqual(result(formula, CELLS, ["A1"]), scalar(told))

    def test_nothing_is_asked_behind(self):
        a_world = world(CELLS, ["B1"])
        self.assertEqual(evaluated(read("=A1+B1+C1"), 0, a_world), (None, (("cell", 0, 0, 0), ("cell", 0, 0, 1))))
        self.assertNotIn(("cell", 0, 0, 2), a_world.asked)

    def test_more_known_cells(self):
        names = {"N": "=MAIN!$C$1"}
        for formula in ("=A1+B1*C1", "=SUM(A1:C2)", "=IF(A1>B1,N,B2)", "=MAP(A1:B2,LAMBDA(x,x&C1))",
            "=INDIRECT(\"A\"&B1)+N"):
            known = world(CELLS, (), names)
            full, reads = evaluated(read(formula), 0, known)
            for at, one in enumerate(reads):
                if one[0] == "cell":
                    a_world = Told(known.cells, [one[1:]], known.names)
                    self.assertEqual(evaluated(read(formula), 0, a_world), (None, reads[:at + 1]))
            only = Told({one[1:]: known.cell(*one[1:]) for one in reads if one[0] == "cell"}, (), known.names)
            self.assertEqual(evaluated(read(formula), 0, only), (full, reads))

    def test_kinds_of_what_comes_back(self):
        got = evaluated(read("=A1"), 0, world(CELLS))
        self.assertIsInstance(got, tuple)
        self.assertIsInstance(got[1], tuple)
        self.assertEqual(got, (number(5), (("cell", 0, 0, 0),)))


class Steps(FormulaCase):
    def test_helper(self):
        for many in range(3, 600):
            self.assertFalse(is_limited(padded(number(1), many), world()))
        self.assertTrue(is_limited(padded(number(1), 600), world()))

    def test_nodes(self):
        self.check_steps(("=1", 1), ("={1,2,3}", 1), ("=LAMBDA(1)", 1), ("=A1", 2), ("=A1:B2", 5), ("=A1:J20", 1),
                         ("=-1", 3), ("=+{1,2,3}", 5),
                         ("=1+1", 4), ("={1,2}+1", 5), ("={1,2}+{1;2}", 7), ("={1,2,3}+{1,2}", 6), ("=#NA!&1", 4),
                         ("=1=1", 4), ("=A1+A1", 6),
                         ("=FOO", 1), ("=FOO(1)", 3), ("=1(1,,1)", 5), ("=1(,)", 4), ("=LAMBDA(1)()", 3),
                         ("=LAMBDA(x,x)(1)", 4),
                         ("=LAMBDA(x,x+x)(1)", 7), ("=LAMBDA(x,x)()", 2), ("=LET(x,1,x)", 3), ("=LET(x,,x)", 3),
                         ("=LET(x,A1,2)", 3),
                         ("=LET(x,A1,x+x)", 8), ("=LET(x,1,y,x,1)", 4), ("=--1", 5), ("=-#NA!", 3))
        # A working of too many members has none, of the error of it one.
        self.check_steps(("=A1:A13+A1:E1", 1 + 2 + 13 + 5), ("=A:J+1", 4), ("=-A:J", 3),
                         ("=SEQUENCE(16)+SEQUENCE(1,4)", 1 + 18 + 7 + 64),
                         ("=SEQUENCE(16)+SEQUENCE(1,5)", 1 + 18 + 8),
                         ("=MOD(SEQUENCE(16),SEQUENCE(1,4))", 1 + 18 + 7 + 64))

    def test_names(self):
        self.check_steps(("=ONE", 2), ("=TWO", 7), ("=CELL", 3), ("=FN(1)", 1 + 2 + 1 + 1), names={
            "ONE": "=1", "TWO": "=ONE+ONE", "CELL": "=MAIN!$A$1", "FN": "=LAMBDA(x,x)"})

    def test_reads(self):
        self.check_steps(("=SUM(A1:A20)", 22), ("=SUM(A1:J20)", 202), ("=SUM(A1:A20,A1:A20)", 43),
                         ("=SUM({1,2},3)", 3),
                         ("=COUNT(A1:A20,#NA!,)", 24), ("=SUM(#NA!,A1:A20)", 2), ("=SUM(A1:A20)+A1", 22 + 2 + 2),
                         cells={})
        # Behind an error nothing is read.
        self.check_steps(("=SUM(A1:A20)", 2 + 4), ("=SUM(B1:B20)", 22))

    def test_library_functions(self):
        self.check_steps(("=NA()", 1), ("=IF(TRUE,1)", 3), ("=IF(FALSE,1)", 2), ("=IF(TRUE,{1,2})", 5),
                         ("=IF(TRUE,A1:B2)", 3 + 4),
                         ("=ISREF(A1:B2)", 2), ("=ROW(A1)", 2), ("=ROWS(A1:B2)", 2), ("=ROWS({1,2})", 2),
                         ("=AND(1,1)", 3), ("=AND(0,1)", 2),
                         ("=CHOOSE(2,1,{1,2})", 5), ("=SWITCH(1,2,3,{1,2,3})", 7), ("=IFS(0,1,1,{1,2})", 6),
                         ("=XOR(1,1)", 3))
        # Lifted ones: one step for each member of the result.
        self.check_steps(("=ABS(1)", 3), ("=ABS(A1)", 4), ("=ABS({1,2})", 4), ("=LEFT({\"a\",\"b\"},{1;2})", 3 + 4),
                         ("=LEFT(\"a\",)", 4),
                         ("=LEFT(\"a\")", 3), ("=ISERROR(#NA!)", 3), ("=ISERROR({1,2,3})", 5), ("=NOT({1,0})", 4),
                         ("=VALUE(1)", 3),
                         ("=MOD(A1:A13,A1:E1)", 3 + 18), ("=ABS(A1:J20)", 3), ("=MOD({1,2,3},{1,2})", 6),
                         ("=ISERROR(A1:J20)", 3),
                         ("=ABS(\"x\")", 3), ("=ABS(#NA!)", 3), ("=ERRNUMBER({1,2})", 4))
        self.check_steps(("=IFERROR(1,2)", 3), ("=IFERROR(#NA!,2)", 4), ("=IFERROR(#NA!,{1,2})", 5),
                         ("=IFERROR({1,2},3)", 4),
                         ("=IFERROR({1,#NA!},3)", 5), ("=IFNA(#NA!,{1;2})", 5), ("=IFNA(A:J,1)", 3),
                         ("=IFERROR(1/0,1)", 7),
                         ("=IFNA(#REF!,1)", 3), ("=IFNA({#NA!,1},{1,2;3,4})", 5))
        self.check_steps(("=SEQUENCE(3)", 5), ("=SEQUENCE(1)", 2), ("=SEQUENCE(4,4)", 3 + 16), ("=SEQUENCE(65)", 2),
                         ("=SEQUENCE(0)", 2),
                         ("=TRANSPOSE({1,2})", 4), ("=SORT({2;1})", 4), ("=SORTBY({2;1},{1;2})", 5),
                         ("=UNIQUE({1;1;2})", 4),
                         ("=FILTER({1;2},{1;0})", 3), ("=FILTER({1;2},{1;1})", 5), ("=FILTER(1,0,{1,2})", 6),
                         ("=TAKE({1;2;3},2)", 5),
                         ("=TAKE({1;2;3},2,)", 6), ("=DROP({1;2;3},1)", 5), ("=VSTACK(1,2)", 5),
                         ("=HSTACK(1,{2,3})", 6),
                         ("=CHOOSEROWS({1;2},1,2,1)", 5 + 3), ("=CHOOSECOLS({1,2},1,1)", 4 + 2),
                         ("=EXPAND(1,2,2)", 4 + 4), ("=TOCOL({1,2})", 4),
                         ("=WRAPROWS({1,2,3},2)", 3 + 4), ("=MMULT({1;2},{1,2})", 3 + 4), ("=MUNIT(3)", 2 + 9),
                         ("=MUNIT(1)", 2),
                         ("=TEXTSPLIT(\"a,b\",\",\")", 3 + 2), ("=INDEX({1,2;3,4},1,0)", 4 + 2),
                         ("=INDEX({1,2},1)", 3), ("=INDEX(A1:B2,1,0)", 4 + 2),
                         ("=XLOOKUP(1,{1;2},{1,2;3,4})", 4 + 2), ("=XLOOKUP(3,{1;2},{1;2},{7,8})", 5 + 2),
                         ("=VLOOKUP(1,{1,2},2)", 4),
                         ("=MATCH(2,A1:A3)", 3 + 1), ("=OFFSET(A1,1,1)", 5), ("=INDIRECT(\"A1\")", 3),
                         ("=CONCAT(A1:B2)", 6), ("=SUMPRODUCT({1,2},A1:B1)", 5))

    def test_functions_of_functions(self):
        # A call of the function costs the nodes of its body.
        self.check_steps(("=MAP({1,2},LAMBDA(x,x))", 3 + 2 + 2), ("=MAP(1,LAMBDA(x,x))", 3 + 1 + 1), ("=MAP(1,2)", 3),
                         ("=MAP(1,#NA!)", 3),
                         ("=MAP({1,2},{1;2;3},LAMBDA(x,y,1))", 4 + 6 + 6),
                         ("=MAP({1,2,3},{1,2},LAMBDA(x,y,1))", 4 + 2 + 3),
                         ("=MAP(A1:A13,A1:E1,LAMBDA(x,y,1))", 4 + 18), ("=MAP({1,2},LAMBDA(1))", 3 + 2),
                         ("=MAP(1,LAMBDA(x,{1,2}))", 3 + 1 + 1),
                         ("=MAP(A:J,LAMBDA(x,x))", 3 + 1 + 1),
                         ("=REDUCE(0,{1,2},LAMBDA(a,b,a+b))", 4 + 2 * 4),
                         ("=REDUCE({1,2},1,LAMBDA(a,b,a))", 4 + 1 + 2),
                         ("=SCAN(0,{1,2},LAMBDA(a,b,a))", 4 + 2 + 2), ("=SCAN(0,1,LAMBDA(a,b,a))", 4 + 1),
                         ("=MAKEARRAY(2,2,LAMBDA(i,j,i))", 4 + 4 + 4),
                         ("=MAKEARRAY(1,1,LAMBDA(i,j,i))", 4 + 1), ("=MAKEARRAY(65,1,LAMBDA(i,j,i))", 4),
                         ("=BYROW({1,2;3,4},LAMBDA(r,1))", 3 + 2 + 2),
                         ("=BYCOL({1,2,3;3,4,5},LAMBDA(r,1))", 3 + 3 + 3), ("=BYROW({1,2},LAMBDA(r,1))", 3 + 1))

    def test_just_the_most(self):
        self.check(("=SUM(A1:J20,A1:J20,A1:J19,1,1,1,1,1,1)", 6), cells={})
        most = "=SUM(A1:J20,A1:J20,A1:J19" + ",1" * 6 + ")"
        self.assertEqual(steps_of(most, {}), 600)
        for more in (",1", ",J9", ",", ",{1,2}"):
            self.assertEqual(result(most[:-1] + more + ")"), LIMIT)
        self.assertEqual(result("=IFERROR(" + most[1:] + ",1)"), LIMIT)
        self.assertEqual(result("=ISERROR(SUM(A1:J20,A1:J20,A1:J20))"), LIMIT)

    def test_limit_and_unknown_cells(self):
        many = "SUM(B1:J20,A1:J20,A1:J20,A1:A8)"
        self.assertEqual(steps_of("=" + many, {}), 1 + 4 + 180 + 400 + 8)
        # A call, its first argument and a range go ahead: of the cells A9 to F9 the last one is one too many.
        tree = ("call", "SUM", (read("=" + many), read("=PLAN!A9:F9")))
        unknown = Told(unknown=[(7, 8, 5)])
        got = evaluated(tree, 0, unknown)
        self.assertEqual((got[0], got[1][-1]), (LIMIT, ("cell", 7, 8, 4)))
        self.assertNotIn(("cell", 7, 8, 5), unknown.asked)
        # A cell that is unknown goes ahead of the limit that is passed behind it.
        got = evaluated(tree, 0, Told(unknown=[(7, 8, 4)]))
        self.assertEqual((got[0], got[1][-1]), (None, ("cell", 7, 8, 4)))


class Levels(FormulaCase):
    def test_nodes(self):
        for formula, levels in (("=1", 1), ("=-1", 2), ("=1+-1", 3), ("={1}", 1), ("=A1", 1), ("=X", 1), ("=ONE", 2),
                                ("=TWO", 4), ("=SUM(1)", 2), ("=SUM(,)", 2),
                                ("=LAMBDA(1+1+1+1)", 1), ("=LAMBDA(1+1)()", 3), ("=LAMBDA(x,x)(-1)", 3),
                                ("=LET(x,-1,x)", 3), ("=LET(x,-1,1)", 3),
                                ("=MAP(1,LAMBDA(x,-x))", 3), ("=REDUCE(1,1,LAMBDA(x,y,--x))", 4),
                                ("=SCAN(1,1,LAMBDA(x,y,x))", 2), ("=BYROW(1,LAMBDA(x,-x))", 3),
                                ("=BYCOL(1,LAMBDA(x,-x))", 3), ("=MAKEARRAY(1,1,LAMBDA(x,y,-x))", 3),
                                ("=IF(TRUE,-1,----1)", 3), ("=1(-1)", 3),
                                ("=FN(1)", 3), ("=FILTER(1,0,-1)", 3), ("=IFERROR(1,----1)", 2), ("=TAKE(1,1,)", 2),
                                ("=-LAMBDA(x,-x)(1)", 4)):
            names = {"ONE": "=1", "TWO": "=ONE+1", "FN": "=LAMBDA(x,-x)"}
            self.assertEqual(levels_of(formula, CELLS, names), levels, formula)

    def test_most(self):
        for deep, told in ((35, number(1)), (36, LIMIT)):
            tree = number(1)
            for _ in range(deep):
                tree = ("sign", "+", tree)
            self.assertEqual(evaluated(tree, 0, world())[0], told)
        for many, told in ((35, number(1)), (36, LIMIT)):
            names = {f"N{k}_": f"=N{k - 1}_" for k in range(1, many)}
            names["N0_"] = "=1"
            self.assertEqual(result(f"=N{many - 1}_", names=names), told)

    def test_functions_that_call_themselves(self):
        names = {"DOWN": "=LAMBDA(n,IF(n=0,0,1+DOWN(n-1)))", "EVER": "=LAMBDA(n,EVER(n))",
            "FACT": "=LAMBDA(n,IF(n<2,1,n*FACT(n-1)))"}
        self.check(("=FACT(5)", 120), ("=DOWN(3)", 3), ("=EVER(1)", "#LIMIT"), ("=DOWN(100)", "#LIMIT"),
                   ("=IFERROR(EVER(1),1)", "#LIMIT"),
                   ("=DOWN(-1)", "#LIMIT"), names=names)
        most = max([n for n in range(20) if result(f"=DOWN({n})", names=names) != LIMIT])
        # Each call goes three levels down: IF, +, the call; n = 0 of the last one goes two further.
        self.assertEqual(most, (36 - 2 - 2) // 3)
        self.check(("=LET(f,LAMBDA(g,g(g)),f(f))", "#LIMIT"))

    def test_limit_tells_what_was_read(self):
        names = {"EVER": "=LAMBDA(n,MAIN!$A$1+EVER(n))"}
        got = evaluated(read("=B1+EVER(1)+C1"), 0, world(CELLS, (), names))
        self.assertEqual(got, (LIMIT, (("cell", 0, 0, 1), ("name", "EVER"), ("cell", 0, 0, 0))))


if __name__ == "__main__":
    unittest.main()
