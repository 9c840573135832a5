"""Tests of [48] to [50]: library functions that make one number of many."""

import unittest

from tests.helping import SCALE, TOP, FormulaCase, number

GREAT = "999999999999999"
CELLS = {"A1": 5, "A2": "x", "A3": True, "B1": 2, "B2": "7", "C1": -3, "E1": "#REF", "F1": 1, "H1": ("number", TOP),
    "I1": 1, "J1": 4}


class Flat(FormulaCase):
    CELLS = CELLS

    def test_totals(self):
        self.check(("=SUM(A1:C3)", 4), ("=SUM(A1:C3,10,TRUE,\"2\")", 17), ("=SUM(J8:J9)", 0),
                   ("=SUM({1,TRUE;\"5\",3})", 4), ("=SUM(A2)", 0),
                   ("=SUM(A3)", 0), ("=SUM(TRUE)", 1), ("=SUM(,)", 0), ("=SUM(A1:J20)", "#REF"), ("=SUM(A:D)", 4),
                   ("=SUM(1,LAMBDA(1))", "#CALC"),
                   ("=SUM(\"x\")", "#VALUE"), ("=SUM(H1,I1)", "#NUM"), ("=SUM(-1,H1,I1)", ("number", TOP)),
                   ("=SUM(H1,I1,-1)", "#NUM"),
                   ("=PRODUCT(A1:C3)", -30), ("=PRODUCT(A2:A3)", 0), ("=PRODUCT(A2)", 0), ("=PRODUCT(2,3,)", 0),
                   ("=PRODUCT(-4)", -4), ("=PRODUCT(J9,7)", 7),
                   ("=PRODUCT(H1,2)", "#NUM"), ("=PRODUCT(H1,2,0)", "#NUM"), ("=PRODUCT(H1,0,2)", 0),
                   ("=PRODUCT(0.001,0.0005,1000)", 0),
                   ("=MIN(A1:C3)", -3), ("=MAX(A1:C3)", 5), ("=MIN(A2)", 0), ("=MAX(A2:A3)", 0), ("=MIN(5,7)", 5),
                   ("=MAX(-5,-7)", -5), ("=MAX(-5,)", 0),
                   ("=MIN(TRUE,\"3\")", 1), ("=MAX(-1,A2)", -1), ("=MAX(E1,1)", "#REF"), ("=MIN(1,#NA!)", "#NA"),
                   ("=AVERAGE(A1:C3)", number("1.333333")), ("=AVERAGE(A2)", "#DIV"), ("=AVERAGE(J8:J9)", "#DIV"),
                   ("=AVERAGE(,)", 0), ("=AVERAGE(1,2)", number("1.5")),
                   ("=AVERAGE(H1,I1)", "#NUM"), ("=AVERAGE(H1,I1,-5)", "#NUM"), ("=AVERAGE(1,E1)", "#REF"),
                   ("=AVERAGE(\"4\",A2:B2)", 4),
                   ("=MEDIAN(3,1,2)", 2), ("=MEDIAN(4,1,3,2)", number("2.5")), ("=MEDIAN(A2)", "#NUM"),
                   ("=MEDIAN(7)", 7), ("=MEDIAN(A1:C3)", 2),
                   ("=MEDIAN(H1,H1)", "#NUM"), ("=MEDIAN(H1,H1,1)", ("number", TOP)), ("=MEDIAN(1,E1)", "#REF"),
                   ("=MEDIAN(0.000001,0)", 0),
                   ("=MEDIAN(0.000003,0)", ("number", 2)), ("=MEDIAN(5,1)", 3))

    def test_order_of_adding(self):
        cells = {"A1": ("number", TOP), "B1": ("number", -TOP), "C1": ("number", TOP)}
        self.check(("=SUM(A1:C1)", ("number", TOP)), ("=SUM(A1,C1,B1)", "#NUM"), ("=AVERAGE(A1,B1)", 0),
                   ("=PRODUCT(0.5,A1,2)", "#NUM"),
                   ("=PRODUCT(0.5,A1)", ("number", (TOP + 1) // 2)), cells=cells)

    def test_counts(self):
        self.check(("=COUNT(A1:J20)", 7), ("=COUNT(1,\"2\",\"x\",TRUE,)", 4), ("=COUNT(#NA!)", 0),
                   ("=COUNT({1,TRUE,\"2\",#NA!})", 1), ("=COUNT(E1)", 0),
                   ("=COUNT(B2)", 0), ("=COUNT(LAMBDA(1))", 0), ("=COUNT(J9)", 0), ("=COUNT(A1)", 1),
                   ("=COUNT(1/0,A1)", 1), ('=COUNT("")', 0),
                   ("=COUNTA(A1:J20)", 11), ("=COUNTA(,)", 2), ("=COUNTA(#NA!,\"\")", 2), ("=COUNTA(J9)", 0),
                   ("=COUNTA(E1)", 1), ("=COUNTA({1,#NA!})", 2),
                   ("=COUNTA(LAMBDA(1))", 1), ("=COUNTA(IF(TRUE,))", 1), ("=COUNTA(HSTACK(J9,1))", 1),
                   ("=COUNTA(A:J)", 11))

    def test_errors_end_the_walk(self):
        self.check_reads(("=SUM(A1:B2,E1:F1,C1)", "A1 B1 A2 B2 E1"), ("=SUM(#NA!,A1)", ""),
                         ("=SUM(A1,\"x\",B1)", "A1"), ("=SUM(1,LAMBDA(1),A1)", ""),
                         ("=SUM({1,#NA!},A1)", ""), ("=SUM(H1:J1)", "H1 I1"), ("=SUM(H1,I1,J1)", "H1 I1"),
                         ("=PRODUCT(H1,J1,A1)", "H1 J1"),
                         ("=AVERAGE(H1:J1)", "H1 I1"), ("=MIN(H1:J1)", "H1 I1 J1"), ("=MEDIAN(H1:J1)", "H1 I1 J1"),
                         ("=MAX(E1,A1)", "E1"), ("=MEDIAN(E1:F1)", "E1"),
                         ("=COUNT(E1:F1,#NA!,A1)", "E1 F1 A1"), ("=COUNTA(E1:F1,#NA!,A1)", "E1 F1 A1"),
                         ("=AVERAGE(E1,A1)", "E1"), ("=PRODUCT(E1,A1)", "E1"))
        for word in ("SUM", "PRODUCT", "MIN", "MAX", "AVERAGE", "MEDIAN", "COUNT", "COUNTA", "CONCAT"):
            self.check_unknown(f"={word}(A1:B2,1,C1,A1)")
            self.assertEqual(len(self.reads_of(f"={word}(A2:D20)")), 76)

    def reads_of(self, formula):
        from tests.helping import cells_read
        return cells_read(formula, self.CELLS).split()


class Places(FormulaCase):
    CELLS = CELLS

    def test_countblank(self):
        cells = {"A1": "", "A2": 0, "B1": "#NA", "B2": " ", "C2": False}
        self.check(("=COUNTBLANK(A1:C2)", 2), ("=COUNTBLANK(A1)", 1), ("=COUNTBLANK(B1)", 0),
                   ("=COUNTBLANK(A:J)", 196), ("=COUNTBLANK(1)", "#VALUE"),
                   ("=COUNTBLANK({1,2})", "#VALUE"), ("=COUNTBLANK(#REF!)", "#REF"),
                   ("=COUNTBLANK(LAMBDA(1))", "#CALC"), ("=COUNTBLANK(IF(TRUE,))", "#VALUE"), cells=cells)
        self.check_unknown("=COUNTBLANK(A1:C2)", cells)

    def test_large_and_small(self):
        numbers = "{5,3;3,9}"
        for k, large, small in ((1, 9, 3), (2, 5, 3), (3, 3, 5), (4, 3, 9), ("2.9", 5, 3), (0, "#NUM", "#NUM"),
                                (5, "#NUM", "#NUM"), ("0.9", "#NUM", "#NUM"),
                                ("-1", "#NUM", "#NUM"), ('"x"', "#VALUE", "#VALUE"), ("#NA!", "#NA", "#NA"),
                                ("TRUE", 9, 3), ("{1,2}", "#VALUE", "#VALUE"), ("", "#NUM", "#NUM")):
            self.check((f"=LARGE({numbers},{k})", large), (f"=SMALL({numbers},{k})", small))
        self.check(("=LARGE(A1:C3,2)", 2), ("=SMALL(A1:C3,1)", -3), ("=LARGE(7,1)", 7), ("=LARGE(TRUE,1)", 1),
                   ("=LARGE(\"x\",1)", "#VALUE"), ("=LARGE(A2,1)", "#NUM"),
                   ("=SMALL(E1,#NA!)", "#REF"), ("=LARGE(E1:F1,\"x\")", "#REF"), ("=LARGE(LAMBDA(1),1)", "#CALC"),
                   ("=SMALL(A:D,1)", -3))
        self.check_reads(("=LARGE(A1:B1,J1)", "A1 B1 J1"), ("=SMALL(E1:F1,J1)", "E1"),
            ("=LARGE(A1:B1,J1:J2)", "A1 B1 J1 J2"))
        self.check_unknown("=LARGE(A1:B1,F1)")

    def test_rank(self):
        self.check(("=RANK(3,{5,3;3,9})", 3), ("=RANK(9,{5,3;3,9})", 1), ("=RANK(5,{5,3;3,9})", 2),
                   ("=RANK(4,{5,3})", "#NA"), ("=RANK(\"3\",{5,3})", 2), ("=RANK(TRUE,{1,2})", 2),
                   ("=RANK(\"x\",#NA!)", "#VALUE"), ("=RANK(#REF!,#NA!)", "#REF"), ("=RANK(1,#NA!)", "#NA"),
                   ("=RANK(1,\"x\")", "#VALUE"), ("=RANK(1,\"1\")", 1), ("=RANK(5,A1:C3)", 1),
                   ("=RANK(7,A1:C3)", "#NA"), ("=RANK(,0)", 1), ("=RANK(0,J9)", "#NA"), ("=RANK({1,2},1)", "#VALUE"))
        self.check_reads(("=RANK(F1,A1:B1)", "F1 A1 B1"), ("=RANK(E1,A1)", "E1"), ("=RANK(F1,E1:F1)", "F1 E1"))
        self.check_unknown("=RANK(F1,A1:B1)")

    def test_sumproduct(self):
        self.check(("=SUMPRODUCT({1,2,3})", 6), ("=SUMPRODUCT({1,2},{3,4})", 11),
                   ("=SUMPRODUCT({1;2},{3;4},{2;2},{1;1})", 22), ("=SUMPRODUCT(3,4)", 12),
                   ("=SUMPRODUCT({1,2},{1;2})", "#VALUE"), ("=SUMPRODUCT({1,2},{1,2,3})", "#VALUE"),
                   ("=SUMPRODUCT({1,2},3)", "#VALUE"), ("=SUMPRODUCT({1,2;3,4},{1,2})", "#VALUE"),
                   ("=SUMPRODUCT({1,TRUE,\"3\"},{1,1,1})", 1), ("=SUMPRODUCT(TRUE)", 0), ("=SUMPRODUCT(\"3\")", 0),
                   ("=SUMPRODUCT(A1:C1,A1:C1)", 38), ("=SUMPRODUCT(J8:J9)", 0),
                   ("=SUMPRODUCT({1,#NA!},{#DIV!,1})", "#DIV"), ("=SUMPRODUCT({#REF!,1},{#NA!,#DIV!})", "#REF"),
                   ("=SUMPRODUCT(#NA!,{1,2})", "#NA"), ("=SUMPRODUCT({1,2},#NA!)", "#NA"),
                   ("=SUMPRODUCT({1,2},{1,#NA!},1)", "#VALUE"), ("=SUMPRODUCT(A:J)", "#SIZE"),
                   ("=SUMPRODUCT(LAMBDA(1))", "#CALC"), ("=SUMPRODUCT(,)", 0),
                   (f"=SUMPRODUCT({{{GREAT},#NA!}},{{2,1}})", "#NUM"),
                   (f"=SUMPRODUCT({{{GREAT},1}},{{#NA!,1}},{{1,1}})", "#NA"),
                   (f"=SUMPRODUCT({{{GREAT},{GREAT},#NA!}})", "#NUM"),
                   (f"=SUMPRODUCT({{{GREAT}}},{{2}},{{0}})", "#NUM"), (f"=SUMPRODUCT({{{GREAT}}},{{0}},{{2}})", 0),
                   (f"=SUMPRODUCT({{{GREAT},1}},{{2,1}},{{#REF!,1}})", "#REF"),
                   (f"=SUMPRODUCT({{{GREAT},-{GREAT},{GREAT}}})", number(GREAT)),
                   (f"=SUMPRODUCT({{1,#NA!,{GREAT}}},{{1,1,2}})", "#NA"))
        self.check_reads(("=SUMPRODUCT(A1:B1,F1:G1)", "A1 B1 F1 G1"), ("=SUMPRODUCT(E1,A1)", "E1"),
            ("=SUMPRODUCT(A1:B1,F1)", "A1 B1 F1"), ("=SUMPRODUCT(E1:F1,A1:B1)", "E1 F1 A1 B1"))
        self.check_unknown("=SUMPRODUCT(A1:B1,I1:J1)")


class Criteria(FormulaCase):
    CELLS = {"A1": 1, "A2": 2, "A3": 2, "A4": "x", "A5": "X", "A6": "", "A8": True, "A9": False, "A10": "#NA",
             "A11": "#DIV", "A12": "2", "A13": "xy", "A14": -1, "A15": "true",
             "C1": 10, "C2": 20, "C3": 40, "C4": "z", "C5": "#REF", "C6": 80}

    def test_criteria(self):
        # A7 is empty; the area has A1 to A15.
        for c, told in (("2", 2), ('"2"', 2), ('"=2"', 2), ('" 2 "', 2), ('"= 2"', 2), ('"2.0"', 2), ("TRUE", 1),
                        ('"true"', 1), ('"=FALSE"', 1), ("FALSE", 1), ('"x"', 2), ('"=X"', 2),
                        ('" x"', 0), ('""', 2), ('"="', 2), ("", 1), ("J20", 1), ("#NA!", 1), ("#DIV!", 1),
                        ("#REF!", 0), ("1/0", 1), ('"<>"', 11), ('"<>2"', 11), ('"<>x"', 11), ('"<>TRUE"', 12),
                        ('">1"', 2), ('">=1"', 3), ('"<2"', 2), ('"<=2"', 4), ('"<0"', 1), ('">x"', 1), ('">=x"', 3),
                        ('"<x"', 3), ('"<=x"', 5), ('">FALSE"', 1), ('">=FALSE"', 2), ('"<TRUE"', 1),
                        ('"<=TRUE"', 2), ('">"', 5), ('">="', 6), ('"<"', 0), ('"<="', 1), ('"=>1"', 0),
                        ('"<>="', 13), ('"=#NA!"', 0), ("1+1", 2), ('"<>3"', 13), ('"==2"', 0), ('"= "', 0), ("3", 0),
                        ('"=true"', 1), ('"= true"', 0), ("LAMBDA(1)", 0), ("B:J", 0), ('"<> 2"', 11), ('">-2"', 4)):
            self.check((f"=COUNTIF(A1:A15,{c})", told))
        cells = {"A1": "#CALC", "A2": "#SIZE", "A3": "=", "A4": ">1"}
        self.check(("=COUNTIF(A1:A5,LAMBDA(1))", 1), ("=COUNTIF(A1:A5,B:J)", 1), ('=COUNTIF(A1:A5,"==")', 1),
            ('=COUNTIF(A1:A5,"=>1")', 1), ('=COUNTIF(A1:A5,"<>=")', 2), cells=cells)
        self.check(("=COUNTIF(A1:A2,{1,2})", "#VALUE"), ("=COUNTIF(A1:A2,C1:C2)", "#VALUE"),
                   ("=COUNTIF(1,2)", "#VALUE"), ("=COUNTIF(#NA!,{1,2})", "#NA"), ("=COUNTIF({1,2},#NA!)", "#VALUE"),
                   ("=COUNTIF(LAMBDA(1),1)", "#CALC"), ("=COUNTIF(A:J,2)", 2), ("=COUNTIF(A1:A3,A2)", 2))

    def test_reads_of_countif(self):
        self.check_reads(("=COUNTIF(A1:B2,C1)", "C1 A1 B1 A2 B2"), ("=COUNTIF(A1:A3,C1:C2)", "C1 C2"),
            ("=COUNTIF(1,C1)", ""), ("=COUNTIF(A10:A11,1)", "A10 A11"))
        self.check_unknown("=COUNTIF(A1:B2,C1)")

    def test_sumif(self):
        self.check(("=SUMIF(A1:A3,2)", 4), ('=SUMIF(A1:A3,">1",C1:C3)', 60), ('=SUMIF(A1:A3,">1",C1)', 60),
                   ('=SUMIF(A1:A3,">1",C1:J20)', 60), ('=SUMIF(A1:A15,">0")', 5), ('=SUMIF(A1:A15,"x")', 0),
                   ('=SUMIF(A1:A15,"x",C1)', "#REF"), ("=SUMIF(A1:A15,TRUE)", 0), ("=SUMIF(A1:A15,#NA!)", "#NA"),
                   ("=SUMIF(A1:A15,#REF!)", 0), ("=SUMIF(A1:A15,#NA!,C1)", 0), ("=SUMIF(A4:A5,\"y\",C4)", 0),
                   ('=SUMIF(A6:A7,"",C6)', 80), ("=SUMIF(A1:A2,1,C19)", 0), ("=SUMIF(A1:A2,1,C20)", "#REF"),
                   ("=SUMIF(A1:B1,1,J1)", "#REF"), ("=SUMIF(A1:B1,1,I1)", 0), ("=SUMIF(A2:A3,1,C19)", 0),
                   ("=SUMIF(A2:A3,1,C20)", "#REF"), ("=SUMIF(B1:C1,1,I1)", 0), ("=SUMIF(B1:C1,1,J1)", "#REF"),
                   ("=SUMIF(A1:A2,1,)", "#VALUE"),
                   ("=SUMIF(A1:A2,1,5)", "#VALUE"), ("=SUMIF(A1:A2,1,#DIV!)", "#DIV"),
                   ("=SUMIF(A1:A2,1,LAMBDA(1))", "#CALC"), ("=SUMIF(1,1)", "#VALUE"), ("=SUMIF(#NA!,{1,2})", "#NA"),
                   ("=SUMIF(A1:A2,{1,2},#NA!)", "#VALUE"), ("=SUMIF(A1:A2,{1,2},C20)", "#VALUE"),
                   ("=SUMIF(A:J,2)", 4), ("=SUMIF(A:J,2,A1)", 4), ("=SUMIF(A:J,2,B1)", "#REF"),
                   ("=SUMIF(A:J,2,A2)", "#REF"))
        cells = {"A1": ("number", TOP), "A2": 1, "A3": -5, "C1": 1, "C2": 1, "C3": 1}
        self.check(('=SUMIF(A1:A3,">-9")', "#NUM"), ("=SUMIF(C1:C3,1,A1)", "#NUM"), ('=SUMIF(A1:A3,"<9")', -4),
            cells=cells)
        self.check_reads(('=SUMIF(A1:A3,">-9")', "A1 A2"), ("=SUMIF(C1:C3,1,A1)", "C1 A1 C2 A2"),
            ("=SUMIF(C1:C3,2,A1)", "C1 C2 C3"), cells=cells)

    def test_reads_of_sumif(self):
        self.check_reads(("=SUMIF(A1:A3,C1-8,C1)", "C1 A1 A2 C2 A3 C3"), ("=SUMIF(A1:B2,1,C1)", "A1 C1 B1 A2 B2"),
                         ("=SUMIF(A1:A2,1,C20)", ""), ('=SUMIF(A4:A6,"x",C4)', "A4 C4 A5 C5"),
                         ("=SUMIF(A1:A3,2)", "A1 A2 A3"),
                         ("=SUMIF(A9:A11,#NA!)", "A9 A10"), ("=SUMIF(A1:A2,A3,1)", "A3"),
                         ("=SUMIF(A1:A2,A3:A4,1)", "A3 A4"), ("=SUMIF(A1:B1,1,PLAN!A1)", "A1 A1 B1"))
        self.check_unknown("=SUMIF(A1:A3,C1-8,C1)")
        self.assertEqual(SCALE, 1000000)


if __name__ == "__main__":
    unittest.main()
