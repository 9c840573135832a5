"""Tests of [51] and [52]: choices, and what tells what something is."""

import unittest

from tests.helping import FormulaCase, error, result

CELLS = {"A1": 5, "A2": "x", "A3": True, "A4": "#DIV", "A5": "#NA", "B1": 2, "B2": "7", "C1": -3, "D1": False,
    "D2": "true"}


class Choices(FormulaCase):
    CELLS = CELLS

    def test_if(self):
        self.check(("=IF(TRUE,1,2)", 1), ("=IF(FALSE,1,2)", 2), ("=IF(FALSE,1)", False), ("=IF(TRUE,1)", 1),
                   ("=IF(FALSE,1,)", 0), ("=IF(TRUE,,1)", 0), ("=IF(,1,2)", 2), ("=IF(0.5,1,2)", 1),
                   ('=IF("True",1,2)', 1), ('=IF("x",1,2)', "#VALUE"), ('=IF("",1,2)', "#VALUE"),
                   ("=IF(#NA!,1,2)", "#NA"), ("=IF({1,2},1,2)", "#VALUE"), ("=IF(A1:A2,1,2)", "#VALUE"),
                   ("=IF(J9,1,2)", 2),
                   ("=IF(D2,1,2)", 1), ("=IF(LAMBDA(1),1,2)", "#CALC"), ("=IF(A:J,1,2)", "#SIZE"),
                   ("=IF(TRUE,A1:B1)", [[5, 2]]), ("=ROWS(IF(TRUE,A1:A3))", 3), ("=ISREF(IF(TRUE,A4))", True),
                   ("=IF(TRUE,LAMBDA(x,x))(7)", 7), ("=IF(TRUE,#NA!,1)", "#NA"), ("=IF(FALSE,#NA!,1)", 1))
        self.check_reads(("=IF(A1,B1,C1)", "A1 B1"), ("=IF(D1,B1,C1)", "D1 C1"), ("=IF(A4,B1,C1)", "A4"),
            ("=ISREF(IF(A1,B1,C1))", "A1"), ("=IF(A1:A2,B1,C1)", "A1 A2"))
        self.check_unknown("=IF(A1,B1,C1)")

    def test_ifs(self):
        self.check(("=IFS(FALSE,1,TRUE,2)", 2), ("=IFS(TRUE,1,#NA!,2)", 1), ("=IFS(FALSE,1)", "#NA"),
                   ("=IFS(FALSE,1,FALSE,2)", "#NA"), ("=IFS(#DIV!,1,TRUE)", "#VALUE"),
                   ("=IFS(TRUE,1,TRUE)", "#VALUE"),
                   ("=IFS(#DIV!,1)", "#DIV"), ('=IFS("x",1)', "#VALUE"), ("=IFS(TRUE,A1:B1)", [[5, 2]]),
                   ("=IFS({1,2},1)", "#VALUE"), ("=IFS(,1,1,)", 0), ("=ISREF(IFS(1,A1))", True),
                   ("=IFS(" + "0,1," * 7 + "1,8)", 8))
        self.check_reads(("=IFS(D1,A1,B1,C1)", "D1 B1 C1"), ("=IFS(A1,B1,C1)", ""), ("=IFS(A4,B1,C1,A1)", "A4"),
            ("=IFS(A1,B1,C1,A1)", "A1 B1"))
        self.check_unknown("=IFS(D1,A1,B1,C1)")

    def test_switch(self):
        self.check(("=SWITCH(2,1,10,2,20)", 20), ("=SWITCH(3,1,10,2,20)", "#NA"), ("=SWITCH(3,1,10,2,20,30)", 30),
                   ('=SWITCH("a","A",1,2)', 1), ("=SWITCH(J9,0,1,2)", 1), ('=SWITCH(J9,"",1,2)', 1),
                   ("=SWITCH(J9,FALSE,1,2)", 1), ("=SWITCH(0,J9,1,2)", 1), ("=SWITCH(1,TRUE,1,2)", 2),
                   ('=SWITCH(1,"1",1,2)', 2), ("=SWITCH(#NA!,#NA!,1,2)", "#NA"), ("=SWITCH(1,#REF!,1,1,2)", "#REF"),
                   ("=SWITCH(1,1,2,#REF!,1)", 2), ("=SWITCH(1,2,3,#REF!)", "#REF"), ("=SWITCH({1,2},1,2)", "#VALUE"),
                   ("=SWITCH(1,{1,2},2)", "#VALUE"), ("=SWITCH(1,1,A1:B1)", [[5, 2]]),
                   ("=SWITCH(1,2,1,A1:B1)", [[5, 2]]),
                   ("=SWITCH(1,1,)", 0), ("=SWITCH(1,2,3,)", 0), ("=SWITCH(,,5)", 5),
                   ("=ISREF(SWITCH(1,2,3,A1))", True), ("=SWITCH(1,1,1,1,2)", 1), ("=SWITCH(LAMBDA(1),1,1)", "#CALC"))
        self.check_reads(("=SWITCH(A1,B1,C1,5,D1,D2)", "A1 B1 D1"), ("=SWITCH(A1,B1,C1,D1)", "A1 B1 D1"),
            ("=SWITCH(A4,B1,C1)", "A4"), ("=SWITCH(A1,A4,C1,D1)", "A1 A4"), ("=SWITCH(A1,B1,C1)", "A1 B1"))
        self.check_unknown("=SWITCH(A1,B1,C1,5,D1,D2)")

    def test_choose(self):
        self.check(("=CHOOSE(1,10,20)", 10), ("=CHOOSE(2,10,20)", 20), ("=CHOOSE(2.9,10,20)", 20),
                   ("=CHOOSE(0,10,20)", "#VALUE"), ("=CHOOSE(3,10,20)", "#VALUE"), ("=CHOOSE(-1,10,20)", "#VALUE"),
                   ("=CHOOSE(0.9,10)", "#VALUE"),
                   ("=CHOOSE(#NA!,1)", "#NA"), ('=CHOOSE("2",1,3)', 3), ('=CHOOSE("x",1)', "#VALUE"),
                   ("=CHOOSE(2,#NA!,3)", 3), ("=CHOOSE(1,A1:B1)", [[5, 2]]), ("=CHOOSE(TRUE,)", 0),
                   ("=CHOOSE(,1)", "#VALUE"),
                   ("=CHOOSE({1,2},1,2)", "#VALUE"), ("=ISREF(CHOOSE(1,A1))", True), ("=CHOOSE(1,LAMBDA(x,x))(3)", 3),
                   ("=CHOOSE(15" + ",1" * 14 + ",2)", 2), ("=CHOOSE(999999999999999,1)", "#VALUE"))
        self.check_reads(("=CHOOSE(B1,A1,C1,D1)", "B1 C1"), ("=CHOOSE(A4,A1)", "A4"), ("=CHOOSE(C1,A1)", "C1"))
        self.check_unknown("=CHOOSE(B1,A1,C1,D1)")

    def test_and_or_xor(self):
        self.check(("=AND(TRUE,1,\"true\")", True), ("=AND(1,0,#NA!)", False), ("=AND(1,#NA!,0)", "#NA"),
                   ("=AND(,1)", False), ("=AND({1,2})", "#VALUE"), ('=AND("x")', "#VALUE"), ("=AND(J9)", False),
                   ("=AND(1)", True),
                   ("=OR(FALSE,0,\"false\")", False), ("=OR(0,1,#NA!)", True), ("=OR(0,#NA!,1)", "#NA"),
                   ("=OR(,1)", True), ("=OR({1,2})", "#VALUE"), ('=OR("x",1)', "#VALUE"), ("=OR(0)", False),
                   ("=OR(A1:A2)", "#VALUE"),
                   ("=XOR(1,1)", False), ("=XOR(1,0)", True), ("=XOR(1,1,1)", True), ("=XOR(0)", False),
                   ("=XOR(1,#NA!)", "#NA"), ('=XOR(1,"x")', "#VALUE"), ("=XOR(,)", False), ("=XOR({1,1})", "#VALUE"),
                   ("=XOR(1,LAMBDA(1))", "#CALC"))
        self.check_reads(("=AND(D1,A1)", "D1"), ("=AND(A1,B1)", "A1 B1"), ("=OR(A1,B1)", "A1"),
            ("=OR(D1,A1,B1)", "D1 A1"), ("=XOR(A1,B1,D1)", "A1 B1 D1"), ("=AND(A4,A1)", "A4"), ("=XOR(A4,A1)", "A4"),
            ("=OR(A2,A1)", "A2"))
        for word in ("AND", "OR", "XOR"):
            self.check_unknown(f"={word}(A1,D1,B1)")

    def test_not(self):
        self.check(("=NOT(TRUE)", False), ("=NOT(0)", True), ("=NOT(J9)", True), ('=NOT("x")', "#VALUE"),
            ('=NOT("False")', True), ("=NOT({1,0;#NA!,\"x\"})", [[False, True], ["#NA", "#VALUE"]]),
            ("=NOT(A:J)", "#SIZE"), ("=NOT(A1:B1)", [[False, False]]))

    def test_iferror(self):
        self.check(("=IFERROR(1,2)", 1), ("=IFERROR(1/0,2)", 2), ("=IFERROR(#NA!,2)", 2),
                   ("=IFERROR(#NA!,#REF!)", "#REF"), ("=IFERROR(#NA!,)", 0), ("=IFERROR(J9,1)", 0),
                   ("=IFERROR(A4,B1)", 2),
                   ("=IFERROR(LAMBDA(1),3)", 3),
                   ("=IFERROR(A:J,3)", 3), ("=IFERROR(#NA!,{1,2})", [[1, 2]]),
                   ("=IFERROR({1,#NA!,3},0)", [[1, 0, 3]]), ("=IFERROR({1,#NA!;#DIV!,3},{7,8})", [[1, 8], [7, 3]]),
                   ("=IFERROR({1,#NA!;#DIV!,3},{7;8})", [[1, 7], [8, 3]]),
                   ("=IFERROR({#NA!,#NA!,#NA!},{7,8})", [[7, 8, "#NA"]]),
                   ("=IFERROR({1,2,#NA!},{7,8;9,10})", [[1, 2, "#NA"]]),
                   ("=IFERROR({#REF!;#NA!;1},{7;8})", [[7], [8], [1]]),
                   ("=IFERROR({#REF!,1},{#DIV!,2})", [["#DIV", 1]]),
                   ("=IFERROR({1,2},#NA!)", [[1, 2]]), ("=IFERROR({#NA!;1},{1,2;3,4})", [[1], [1]]),
                   ("=IFERROR({#NA!,1},LAMBDA(1))", [["#CALC", 1]]),
                   ("=IFERROR(A1:A5,0)", [[5], ["x"], [True], [0], [0]]),
                   ("=IFERROR(HSTACK(J9,{#NA!,2}),1)", [[0, 1, 2]]), ("=ISREF(IFERROR(A1,1))", False))
        self.check_reads(("=IFERROR(A1,B1)", "A1"), ("=IFERROR(A4,B1)", "A4 B1"),
            ("=IFERROR(A1:A5,B1:C1)", "A1 A2 A3 A4 A5 B1 C1"), ("=IFERROR(A1:B2,C1)", "A1 B1 A2 B2"))
        self.check_unknown("=IFERROR(A4:A5,B1:C1)")
        self.check_unknown("=IFNA(A4:A5,B1:C1)")

    def test_ifna(self):
        self.check(("=IFNA(1,2)", 1), ("=IFNA(#NA!,2)", 2), ("=IFNA(#REF!,2)", "#REF"),
                   ("=IFNA({#NA!,#REF!},2)", [[2, "#REF"]]), ("=IFNA({#REF!,1},2)", [["#REF", 1]]),
                   ("=IFNA(LAMBDA(1),2)", "#CALC"), ("=IFNA(A5,A4)", "#DIV"),
                   ('=IFNA("NA",2)', "NA"), ("=IFNA({#NA!;#NA!},{1;2})", [[1], [2]]))
        self.check_reads(("=IFNA(A4,B1)", "A4"), ("=IFNA(A5,B1)", "A5 B1"), ("=IFNA(A4:A5,B1)", "A4 A5 B1"))


class Kinds(FormulaCase):
    CELLS = CELLS

    def test_kinds_of_scalars(self):
        parts = ("J9", "1", '"x"', "TRUE", "#REF!", "#NA!", '""', "LAMBDA(1)", "A:J")
        for word, told in (("ISBLANK", "100000000"), ("ISNUMBER", "010000000"), ("ISTEXT", "001000100"),
            ("ISLOGICAL", "000100000"), ("ISERROR", "000011011"), ("ISNA", "000001000")):
            for part, one in zip(parts, told):
                self.check((f"={word}({part})", one == "1"))
            self.check((f"={word}(IF(TRUE,))", told[0] == "1"))
        self.check(("=ISERROR({1,#REF!;#NA!,\"x\"})", [[False, True], [True, False]]),
            ("=ISNA({#REF!,#NA!})", [[False, True]]), ("=ISBLANK(HSTACK(J9,0))", [[True, False]]),
            ("=ISTEXT(A1:A3)", [[False], [True], [False]]))

    def test_error_numbers(self):
        for at, word in enumerate("DIV VALUE REF NAME NUM NA CALC SIZE LIMIT".split()):
            self.check((f"=ERRNUMBER(#{word}!)", at + 1))
        self.check(("=ERRNUMBER(1)", "#NA"), ("=ERRNUMBER(J9)", "#NA"), ("=ERRNUMBER({1,#REF!})", [["#NA", 3]]),
            ('=ERRNUMBER("#REF!")', "#NA"), ("=ERRNUMBER(LAMBDA(1))", 7), ("=ERRNUMBER(A:J)", 8), ("=NA()", "#NA"))
        self.check_unknown("=ERRNUMBER(A1:B2)")
        self.check_unknown("=ISBLANK(A1:B2)")

    def test_references(self):
        self.check(("=ISREF(A1)", True), ("=ISREF(A:J)", True), ("=ISREF(1)", False), ("=ISREF(#REF!)", False),
                   ("=ISREF(LAMBDA(1))", False), ("=ISREF({1,2})", False), ("=ISREF(NOWHERE)", False),
                   ("=ISREF(OFFSET(A1,0,0))", True),
                   ("=ISREF(A1+0)", False), ("=ISREF(IF(TRUE,))", False), ("=ISREF((A1))", True),
                   ("=ROW(B3:C9)", 3), ("=COLUMN(B3:C9)", 2), ("=ROW(A:B)", 1), ("=COLUMN(3:4)", 1), ("=ROW(3:4)", 3),
                   ("=COLUMN(J20)", 10), ("=ROW(1)", "#VALUE"), ("=ROW(#NA!)", "#NA"), ("=ROW(LAMBDA(1))", "#CALC"),
                   ("=COLUMN({1,2})", "#VALUE"),
                   ("=COLUMN(IF(TRUE,))", "#VALUE"), ("=ROW(PLAN!B7)", 7), ("=COLUMN(#REF!)", "#REF"),
                   ("=COLUMN(LAMBDA(1))", "#CALC"),
                   ("=ROWS(A1:C7)", 7), ("=COLUMNS(A1:C7)", 3), ("=ROWS(A:J)", 20), ("=COLUMNS(1:20)", 10),
                   ("=ROWS({1,2,3;4,5,6})", 2), ("=COLUMNS({1,2,3;4,5,6})", 3), ("=ROWS(1)", 1),
                   ("=COLUMNS(\"x\")", 1), ("=ROWS(#NA!)", "#NA"),
                   ("=COLUMNS(#REF!)", "#REF"), ("=ROWS(A4)", 1), ("=COLUMNS(A4)", 1), ("=ROWS(LAMBDA(1))", "#CALC"),
                   ("=COLUMNS(LAMBDA(1))", "#CALC"), ("=ROWS({#NA!,1})", 1), ("=ROWS(IF(TRUE,))", 1))
        self.check_reads(("=ISREF(A1)", ""), ("=ROW(A1)+COLUMN(B2)", ""), ("=ROWS(A1:B2)+COLUMNS(A1:B2)", ""),
            ("=ROWS(A1:B1+1)", "A1 B1"))
        self.assertEqual(result("=ISREF(A1)", unknown=["A1"]), ("truth", True))
        self.assertEqual(result("=ROWS(A1:B2)/0", unknown=["A1"]), error("DIV"))


if __name__ == "__main__":
    unittest.main()
