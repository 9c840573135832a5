"""Tests of [55] and [56]: library functions that look something up."""

import unittest

from sheetworks.evaluation import evaluated
from tests.helping import FormulaCase, Told, number, read

CELLS = {"A1": 1, "A2": 3, "A3": 3, "A4": 7, "A5": "x", "B1": "a", "B2": "b", "B3": "c", "B4": "d", "C1": 10,
         "C2": 20, "C3": 30, "C4": 40,
         "D1": "#DIV", "D2": 2, "D3": True, "E1": 5, "F1": 1, "G1": 0}


class Index(FormulaCase):
    CELLS = CELLS

    def test_parts_of_values(self):
        table = "{1,2,3;4,5,6}"
        self.check((f"=INDEX({table},2,3)", 6), (f"=INDEX({table},1,1)", 1), (f"=INDEX({table},2,0)", [[4, 5, 6]]),
                   (f"=INDEX({table},0,2)", [[2], [5]]), (f"=INDEX({table},0,0)", [[1, 2, 3], [4, 5, 6]]),
                   (f"=INDEX({table},2)", [[4, 5, 6]]), (f"=INDEX({table},0)", [[1, 2, 3], [4, 5, 6]]),
                   (f"=INDEX({table},3,1)", "#REF"), (f"=INDEX({table},1,4)", "#REF"),
                   (f"=INDEX({table},-1,1)", "#REF"), (f"=INDEX({table},1,-1)", "#REF"),
                   (f"=INDEX({table},3)", "#REF"), (f"=INDEX({table},1,)", [[1, 2, 3]]),
                   (f"=INDEX({table},,1)", [[1], [4]]), (f"=INDEX({table},1.9,2.9)", 2),
                   ("=INDEX({7,8,9},2)", 8), ("=INDEX({7,8,9},0)", [[7, 8, 9]]), ("=INDEX({7,8,9},4)", "#REF"),
                   ("=INDEX({7,8,9},1,2)", 8), ("=INDEX({7,8,9},2,1)", "#REF"), ("=INDEX({7,8,9},0,2)", 8),
                   ("=INDEX({7;8;9},2)", 8), ("=INDEX({7;8;9},2,1)", 8), ("=INDEX({7;8;9},1,2)", "#REF"),
                   ("=INDEX({7;8;9},4)", "#REF"), ("=INDEX({7;8;9},0)", [[7], [8], [9]]), ("=INDEX(5,1)", 5),
                   ("=INDEX(5,0)", 5), ("=INDEX(5,1,1)", 5), ("=INDEX(5,2)", "#REF"), ("=INDEX(5,1,2)", "#REF"),
                   ("=INDEX(5,-1)", "#REF"), ("=INDEX(,1)", 0), ("=INDEX(#NA!,1)", "#NA"), ("=INDEX(#NA!,2)", "#REF"),
                   ("=INDEX(LAMBDA(1),1)", "#CALC"), ("=INDEX(LAMBDA(1),2)", "#REF"),
                   (f"=INDEX({table},#NA!,9)", "#NA"), (f"=INDEX({table},9,#NA!)", "#NA"),
                   (f'=INDEX({table},"x")', "#VALUE"), (f"=INDEX({table},{{1,2}})", "#VALUE"),
                   (f"=INDEX({table},-0.5,1)", "#REF"), ("=INDEX({1,#NA!},2)", "#NA"),
                   (f"=INDEX({table},TRUE,\"2\")", 2), (f"=INDEX({table},999999999999999)", "#REF"),
                   (f"=INDEX({table},1,-0.1)", "#REF"))

    def test_references(self):
        self.check(("=INDEX(A1:C4,2,3)", 20), ("=ROW(INDEX(A1:C4,3,1))", 3), ("=COLUMN(INDEX(B1:C4,0,2))", 3),
                   ("=ROWS(INDEX(B1:C4,0,2))", 4), ("=COLUMNS(INDEX(B1:C4,2,0))", 2),
                   ("=ISREF(INDEX(A1:C4,1,1))", True),
                   ("=ISREF(INDEX(A1,1))", True), ("=SUM(INDEX(A:A,0))", 14), ("=ROWS(INDEX(A:J,0,0))", 20),
                   ("=INDEX(A1:C1,3)", 10), ("=INDEX(A1:A4,4)", 7), ("=INDEX(A1:C4,5,1)", "#REF"),
                   ("=INDEX(A1:C4,1,4)", "#REF"), ("=INDEX(D1,1)", "#DIV"), ("=INDEX(A1:A4,1,2)", "#REF"),
                   ("=COLUMN(INDEX(C1:E1,2))", 4), ("=ROW(INDEX(A3:A5,2))", 4), ("=INDEX(A:J,20,10)", 0),
                   ("=ISREF(INDEX(A1:B2,3,3))", False))
        self.check_reads(("=INDEX(A1:C4,2,3)", "C2"), ("=INDEX(A1:C4,F1,E1-3)", "F1 E1 B1"),
            ("=INDEX(A1:C4,D1,E1)", "D1"), ("=ROW(INDEX(A1:C4,2,3))", ""), ("=INDEX(A1:C4,9,1)", ""),
            ("=INDEX(A1:B2+0,F1)", "A1 B1 A2 B2 F1"))
        self.check_unknown("=INDEX(A1:C4,F1,0)")


    def test_other_sheets(self):
        a_world = Told({(7, i, j): number(10 * i + j) for i in range(20) for j in range(10)})
        for formula, told in (("=INDEX(PLAN!C2:F9,3,2)", 33), ("=INDEX(PLAN!C2:C9,4)", 42),
                              ("=INDEX(PLAN!C2:F2,4)", 15), ("=MATCH(43,PLAN!D2:D9,0)", 4),
                              ("=MATCH(43,PLAN!D2:D9)", 4),
                              ("=MATCH(15,PLAN!C2:H2,0)", 4), ("=XLOOKUP(42,PLAN!C3:C9,PLAN!F4:F10)", 55),
                              ("=XLOOKUP(15,PLAN!C2:H2,PLAN!D7:I7)", 66), ("=VLOOKUP(42,PLAN!C3:F9,3,0)", 44),
                              ("=OFFSET(PLAN!D3,5,-2)", 71), ("=SUM(OFFSET(PLAN!D3:E5,1,3,1))", 36 + 37),
                              ('=INDIRECT("plan!C4")', 32), ("=INDEX(PLAN!C2:F9,3,0)*{1,0,0,0}", None)):
            found, reads = evaluated(read(formula), 0, a_world)
            self.assertEqual([one[1] for one in reads if one[0] == "cell" and one[1] != 7], [])
            if told is not None:
                self.assertEqual(found, number(told), formula)
        self.assertEqual(evaluated(read("=INDEX(PLAN!C2:F9,3,0)"), 0, a_world)[0][3],
            tuple([number(n) for n in (32, 33, 34, 35)]))


class Match(FormulaCase):
    CELLS = CELLS

    def test_alike(self):
        self.check(("=MATCH(3,A1:A5,0)", 2), ("=MATCH(7,A1:A5,0)", 4), ("=MATCH(4,A1:A5,0)", "#NA"),
                   ('=MATCH("X",A1:A5,0)', 5), ("=MATCH(TRUE,D1:D3,0)", 3), ('=MATCH("3",A1:A5,0)', "#NA"),
                   ("=MATCH(1,D1:D3,0)", "#NA"), ("=MATCH(,{1,0},0)", 2), ("=MATCH(J9,{1,0},0)", 2),
                   ("=MATCH(0,J8:J9,0)", "#NA"),
                   ('=MATCH("",J8:J9,0)', "#NA"), ("=MATCH(2,{1,2,2},0)", 2), ("=MATCH(2,{1;2;2},0)", 2),
                   ("=MATCH(2,D1:D3,0)", 2), ("=MATCH(5,5,0)", 1), ("=MATCH(5,6,0)", "#NA"),
                   ("=MATCH(FALSE,{0,FALSE},0)", 2), ("=MATCH(2,{#NA!,2},0)", 2), ("=MATCH(1,#REF!,0)", "#NA"),
                   ("=MATCH(1,LAMBDA(1),0)", "#NA"))

    def test_near_ones(self):
        self.check(("=MATCH(5,{1,3,7})", 2), ("=MATCH(7,{1,3,7})", 3), ("=MATCH(9,{1,3,7})", 3),
                   ("=MATCH(0,{1,3,7})", "#NA"), ("=MATCH(3,A1:A5)", 3), ("=MATCH(3,A1:A5,1)", 3),
                   ("=MATCH(8,A1:A5)", 4),
                   ('=MATCH("z",A1:A5)', 5), ('=MATCH("a",A1:A5)', "#NA"), ("=MATCH(3,{1,9,2})", 1),
                   ("=MATCH(3,{5,1,2})", "#NA"),
                   ("=MATCH(3,{2,\"x\",3,TRUE,#NA!,9})", 3), ("=MATCH(3,{2,\"x\",#NA!})", 1),
                   ("=MATCH(3,{3,1,2})", 3), ("=MATCH(3,{1,2,3},2.5)", 3), ("=MATCH(3,{1,2,3},TRUE)", 3),
                   ("=MATCH(3,{1,2,3},0.5)", 3), ("=MATCH(3,{1,2,4},0.5)", "#NA"),
                   ("=MATCH(3,{9,5,3,1},-1)", 3), ("=MATCH(4,{9,5,3,1},-1)", 2), ("=MATCH(10,{9,5,3,1},-1)", "#NA"),
                   ("=MATCH(0,{9,5,3,1},-1)", 4), ("=MATCH(4,{1,9},-1)", "#NA"), ("=MATCH(4,{9,1,9},-2)", 1),
                   ("=MATCH(4,{9,\"x\",5},-0.5)", 3), ("=MATCH(TRUE,{FALSE,TRUE})", 2), ("=MATCH(2,{1,2,3},)", 2),
                   ("=MATCH(5,7)", "#NA"), ("=MATCH(7,5)", 1))

    def test_shapes_and_errors(self):
        self.check(("=MATCH(1,{1,2;3,4},0)", "#NA"), ("=MATCH(1,A1:B2,0)", "#NA"), ("=MATCH(#REF!,{1,2},0)", "#REF"),
                   ("=MATCH({1,2},{1,2},0)", "#VALUE"), ("=MATCH(1,{1,2;3,4},#DIV!)", "#DIV"),
                   ('=MATCH(1,{1,2},"x")', "#VALUE"), ("=MATCH(1,A:B,0)", "#NA"), ("=MATCH(7,A:A,0)", 4),
                   ("=MATCH(10,1:1,0)", 3),
                   ("=MATCH(#NA!,#REF!,#DIV!)", "#NA"), ("=MATCH(LAMBDA(1),{1,2})", "#CALC"))

    def test_reads(self):
        self.check_reads(("=MATCH(3,A1:A5,0)", "A1 A2"), ("=MATCH(3,A1:A5,1)", "A1 A2 A3 A4"),
                         ("=MATCH(8,A1:A5,1)", "A1 A2 A3 A4 A5"), ("=MATCH(3,A1:A5,-1)", "A1"),
                         ("=MATCH(3,A1:A5,F1-1)", "F1 A1 A2"), ("=MATCH(E1,A1:A5,G1)", "E1 G1 A1 A2 A3 A4 A5"),
                         ("=MATCH(1,A1:B2,G1)", "G1"), ("=MATCH(D1,A1:A5,G1)", "D1"),
                         ("=MATCH(1,A1:A5,D1)", "D1"), ("=MATCH(10,A1:E1,0)", "A1 B1 C1"),
                         ("=MATCH(1,A1:A2+0,G1)", "A1 A2 G1"), ("=MATCH(3,A:A)", "A1 A2 A3 A4"))
        self.check_unknown("=MATCH(E1,A1:A5,G1)")


class Lookups(FormulaCase):
    CELLS = CELLS

    def test_xlookup(self):
        self.check(("=XLOOKUP(3,A1:A4,B1:B4)", "b"), ("=XLOOKUP(7,A1:A4,B1:C4)", [["d", 40]]),
                   ("=XLOOKUP(4,A1:A4,B1:B4)", "#NA"), ("=XLOOKUP(4,A1:A4,B1:B4,9)", 9),
                   ("=XLOOKUP(4,A1:A4,B1:B4,)", 0),
                   ("=XLOOKUP(2,{1,2,3},{4,5,6})", 5), ("=XLOOKUP(2,{1,2,3},{4,5,6;7,8,9})", [[5], [8]]),
                   ("=XLOOKUP(2,{1;2},{4,5;6,7})", [[6, 7]]), ("=XLOOKUP(2,{1,2;3,4},{1,2})", "#VALUE"),
                   ("=XLOOKUP(2,{1;2},{1;2;3})", "#VALUE"), ("=XLOOKUP(2,{1,2},{1,2,3})", "#VALUE"),
                   ("=XLOOKUP(2,{1,2},{1;2})", "#VALUE"), ("=XLOOKUP(2,{1;2},{1,2})", "#VALUE"),
                   ("=XLOOKUP(5,5,{7,8,9})", [[7, 8, 9]]),
                   ("=XLOOKUP(5,5,{7;8})", "#VALUE"), ("=XLOOKUP(5,5,6)", 6), ("=XLOOKUP(#NA!,{1,2;3,4},1)", "#NA"),
                   ("=XLOOKUP({1,2},1,1)", "#VALUE"), ("=XLOOKUP(1,#NA!,1)", "#NA"), ("=XLOOKUP(1,#REF!,1,8)", 8),
                   ("=XLOOKUP(1,1,#REF!)", "#REF"), ("=XLOOKUP(,{1,0},{5,6})", 6), ("=XLOOKUP(J9,{1,0},{5,6})", 6),
                   ("=XLOOKUP(1,1,LAMBDA(1))", "#CALC"), ("=XLOOKUP(1,LAMBDA(1),1,4)", 4),
                   ("=XLOOKUP(LAMBDA(1),1,1)", "#CALC"), ('=XLOOKUP("B",B1:B4,A1:A4)', 3),
                   ("=XLOOKUP(3,A1:A4,C1:C4,#REF!)", 20), ("=XLOOKUP(9,{1,2},{1,2},{7,8})", [[7, 8]]),
                   ("=XLOOKUP(9,{1,2;3,4},{1,2},#DIV!)", "#VALUE"),
                   ("=ISREF(XLOOKUP(3,A1:A4,B1:B4))", True), ("=ISREF(XLOOKUP(4,A1:A4,B1:B4,A1))", True),
                   ("=ROW(XLOOKUP(3,A1:A4,B11:C14))", 12), ("=COLUMN(XLOOKUP(10,A1:C1,D4:F6))", 6),
                   ("=ROWS(XLOOKUP(10,A1:C1,D4:F6))", 3), ("=COLUMNS(XLOOKUP(3,A1:A4,B1:C4))", 2),
                   ("=XLOOKUP(9,1,1,LAMBDA(x,x))(5)", 5))
        self.check_reads(("=XLOOKUP(3,A1:A4,B1:B4,E1)", "A1 A2 B2"), ("=XLOOKUP(4,A1:A4,B1:B4,E1)", "A1 A2 A3 A4 E1"),
            ("=XLOOKUP(E1,A1:A4,B1:B3)", "E1"), ("=XLOOKUP(D1,A1:A4,B1:B4)", "D1"), ("=XLOOKUP(1,A1:B2,C1:C2)", ""),
            ("=XLOOKUP(1,A1:C1,A2:C3)", "A1 A2 A3"))
        self.check_unknown("=XLOOKUP(E1,A1:A4,B1:B4,F1)")
        self.check_unknown("=XLOOKUP(3,A1:A4,B1:C4,F1)")

    def test_vlookup(self):
        self.check(("=VLOOKUP(3,A1:C4,2)", "c"), ("=VLOOKUP(3,A1:C4,2,FALSE)", "b"), ("=VLOOKUP(5,A1:C4,3)", 30),
                   ("=VLOOKUP(5,A1:C4,3,FALSE)", "#NA"), ("=VLOOKUP(0,A1:C4,3)", "#NA"), ("=VLOOKUP(3,A1:C4,1)", 3),
                   ("=VLOOKUP(3,A1:C4,0)", "#VALUE"), ("=VLOOKUP(3,A1:C4,4)", "#REF"),
                   ("=VLOOKUP(3,A1:C4,-1)", "#VALUE"),
                   ("=VLOOKUP(3,A1:C4,2.9,0)", "b"), ("=VLOOKUP(3,A1:C4,2,)", "b"), ("=VLOOKUP(3,A1:C4,2,5)", "c"),
                   ('=VLOOKUP(3,A1:C4,2,"x")', "#VALUE"), ("=VLOOKUP(3,A1:C4,0,#NA!)", "#NA"),
                   ("=VLOOKUP(3,A1:C4,#REF!,#NA!)", "#REF"), ("=VLOOKUP(#DIV!,A1:C4,#REF!)", "#DIV"),
                   ("=VLOOKUP(3,A1:C4,,0)", "#VALUE"),
                   ("=VLOOKUP(2,{1,\"a\";2,\"b\";2,\"c\"},2)", "c"),
                   ("=VLOOKUP(2,{1,\"a\";2,\"b\";2,\"c\"},2,0)", "b"), ("=VLOOKUP(5,5,1)", 5),
                   ("=VLOOKUP(5,5,2)", "#REF"), ("=VLOOKUP(5,#NA!,1)", "#NA"), ("=VLOOKUP(5,#REF!,2)", "#REF"),
                   ("=VLOOKUP(5,LAMBDA(1),1)", "#NA"), ("=VLOOKUP(,{0,4},2)", 4), ("=VLOOKUP(J9,{0,4},2)", 4),
                   ("=VLOOKUP({1,2},1,1)", "#VALUE"), ("=VLOOKUP(3,{1,2;9,2;3,4},2,TRUE)", 2),
                   ("=ISREF(VLOOKUP(3,A1:C4,2))", True), ("=ROW(VLOOKUP(3,A1:C4,2,0))", 2),
                   ("=COLUMN(VLOOKUP(3,A1:C4,3,0))", 3), ("=VLOOKUP(LAMBDA(1),1,1)", "#CALC"))
        self.check_reads(("=VLOOKUP(3,A1:C4,2)", "A1 A2 A3 A4 B3"), ("=VLOOKUP(3,A1:C4,2,0)", "A1 A2 B2"),
            ("=VLOOKUP(E1,A1:C4,F1,G1)", "E1 F1 G1 A1 A2 A3 A4"), ("=VLOOKUP(3,A1:C4,4)", ""),
            ("=VLOOKUP(3,A1:C4,0)", ""), ("=VLOOKUP(D1,A1:C4,F1)", "D1"), ("=VLOOKUP(3,A1:C4,D1,G1)", "D1"))
        self.check_unknown("=VLOOKUP(E1,A1:C4,F1,G1)")
        self.check_unknown("=VLOOKUP(3,A1:C4,2)")

    def test_offset(self):
        self.check(("=OFFSET(A1,1,1)", "b"), ("=OFFSET(A1:B2,1,1)", [["b", 20], ["c", 30]]),
                   ("=OFFSET(A1,0,0,2,2)", [[1, "a"], [3, "b"]]), ("=OFFSET(A1:C3,0,0,1,1)", 1),
                   ("=OFFSET(A1:B2,0,0,1)", [[1, "a"]]), ("=OFFSET(A1:B2,0,1,,1)", "#REF"),
                   ("=OFFSET(A1,0,0,1,)", "#REF"),
                   ("=OFFSET(A1,0,0,0)", "#REF"), ("=OFFSET(A1,0,0,1,0)", "#REF"),
                   ("=OFFSET(A1,0,0,-1)", "#REF"), ("=OFFSET(B2,-1,-1)", 1), ("=OFFSET(A1,-1,0)", "#REF"),
                   ("=OFFSET(A1,0,-1)", "#REF"), ("=OFFSET(A1,19,9)", 0), ("=OFFSET(A1,20,0)", "#REF"),
                   ("=OFFSET(A1,0,10)", "#REF"), ("=OFFSET(A1,18,0,2)", [[0], [0]]), ("=OFFSET(A1,18,0,3)", "#REF"),
                   ("=OFFSET(A1,0,8,1,2)", [[0, 0]]), ("=OFFSET(A1,0,8,1,3)", "#REF"),
                   ("=OFFSET(A1:B2,19,0)", "#REF"), ("=OFFSET(A1,,)", 1), ("=OFFSET(A1,1.9,0.9)", 3),
                   ("=OFFSET(A1,-0.1,0)", "#REF"), ("=ROWS(OFFSET(A1,0,0,20,10))", 20),
                   ("=OFFSET(A1,0,0,21,10)", "#REF"), ("=OFFSET(A1,0,0,20,11)", "#REF"),
                   ("=COLUMN(OFFSET(A:A,0,3))", 4), ("=ROWS(OFFSET(A:A,0,3))", 20),
                   ("=OFFSET(1,0,0)", "#VALUE"), ("=OFFSET(#NA!,0,0)", "#NA"), ("=OFFSET(LAMBDA(1),0,0)", "#CALC"),
                   ("=OFFSET({1,2},0,0)", "#VALUE"), ("=OFFSET(A1,#REF!,#NA!)", "#REF"),
                   ('=OFFSET(A1,0,"x")', "#VALUE"), ("=OFFSET(A1,20,0,#DIV!)", "#DIV"),
                   ("=OFFSET(A1,{1,2},0)", "#VALUE"), ("=OFFSET(A1,999999999999999,0)", "#REF"),
                   ("=ISREF(OFFSET(A1,5,5))", True))
        self.check_reads(("=OFFSET(A1,F1,E1-4)", "F1 E1 B2"), ("=ISREF(OFFSET(A1,F1,F1,F1,F1))", "F1"),
            ("=OFFSET(A1,D1,F1)", "D1"), ("=OFFSET(1,F1,F1)", ""), ("=OFFSET(A1,99,0,F1,E1)", "F1 E1"))
        self.check_unknown("=OFFSET(A1,F1,E1-4,F1+1)")
        a_world = Told({(7, 0, 0): number(9)})
        self.assertEqual(evaluated(read("=OFFSET(PLAN!B2,-1,-1)"), 0, a_world)[0], number(9))

    def test_indirect(self):
        for what, told in (("A1", 1), ("a1", 1), ("$A$1", 1), ("$a1", 1), ("A$1", 1), (" A1  ", 1), ("A1:A1", 1),
            ("main!A1", 1), ("Main!A1:B1", [[1, "a"]]), ("A1:B2", [[1, "a"], [3, "b"]]),
            ("B2:A1", [[1, "a"], [3, "b"]]), ("$B1:A$2", [[1, "a"], [3, "b"]]), ("PLAN!A1", 0), ("J20", 0),
            ("A2:A2", 3), (" main!A1 ", 1)):
            self.check((f'=INDIRECT("{what}")', told))
        for what, told in (("2:3", 2), ("3:$2", 2), ("A:C", 20), ("$C:A", 20), ("PLAN!$2:3", 2), ("plan!b:b", 20),
            ("1:20", 20), ("B9:C12", 4)):
            self.check((f'=ROWS(INDIRECT("{what}"))', told), (f'=ISREF(INDIRECT("{what}"))', True))
        for what in ("", " ", "A", "1", "A0", "A21", "K1", "A01", "A1:", ":A1", "A1:B", "A1: B2", "A1 :B2", "A 1",
                     "A1 B1", "A1,B1", "1:21", "0:1", "A:K", "A1:B2:C3", "1:2:3", "A:B:C", "!A1", "main!", "main! A1",
                     "main !A1", "main!main!A1", "nope!A1", "A1!A1", "TRUE!A1",
                     "SUM!A1", "LET!A1", "abcdefghi!A1", "a.b!A1", "$A", "$1", "$A$", "A$1:", "#REF!", "=A1", "A1(",
                     "A1_", "MAIN", "FOO", "R1C1", "1A", "A1!", "1:A", "A:1", "A1:2", "main!A1:main!B2", "$$A1",
                     "A$$1", "-A1", "+A1", "(A1)", "'main'!A1", "@A1", "A1@"):
            self.check((f'=INDIRECT("{what}")', "#REF"))
            self.check_reads((f'=INDIRECT("{what}")', "sheet:NOPE" if what == "nope!A1" else ""))
        self.check(("=INDIRECT(1)", "#REF"), ("=INDIRECT(J9)", "#REF"), ("=INDIRECT(#NA!)", "#NA"),
                   ("=INDIRECT({\"A1\",\"A2\"})", "#VALUE"), ("=INDIRECT(LAMBDA(1))", "#CALC"),
                   ("=INDIRECT(TRUE)", "#REF"),
                   ("=INDIRECT(\"A\"&F1)", 1), ("=ROW(INDIRECT(\"2:3\"))", 2), ("=COLUMN(INDIRECT(\"C:B\"))", 2),
                   ("=INDIRECT(IF(TRUE,))", "#REF"), ("=SUM(INDIRECT(\"A:A\"))", 14))
        self.check_reads(('=INDIRECT("main!A1")', "sheet:MAIN A1"), ('=INDIRECT("A"&F1)', "F1 A1"),
            ('=INDIRECT("nope!Z1")', ""), ('=ROW(INDIRECT("plan!A1:B2"))', "sheet:PLAN"), ('=INDIRECT(D1)', "D1"))
        self.check_unknown('=INDIRECT("A"&F1)')
        a_world = Told({(7, 0, 0): number(9)})
        self.assertEqual(evaluated(read('=INDIRECT("A1")'), 7, a_world), (number(9), (("cell", 7, 0, 0),)))
        self.assertEqual(evaluated(read('=INDIRECT("plan!A1")'), 0, a_world),
            (number(9), (("sheet", "PLAN"), ("cell", 7, 0, 0))))


if __name__ == "__main__":
    unittest.main()
