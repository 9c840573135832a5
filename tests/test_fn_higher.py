"""Tests of [58]: library functions that call functions."""

import unittest

from sheetworks.evaluation import evaluated
from tests.helping import FormulaCase, read, result, world

CELLS = {"A1": 3, "A2": 1, "A3": 2, "B1": "c", "B2": "a", "B3": "b", "D1": "#DIV", "D2": 2, "E1": 1, "F1": -1,
    "G1": 0}
F = "LAMBDA(x,x)"
G = "LAMBDA(x,y,x&y)"


class Higher(FormulaCase):
    CELLS = CELLS

    def test_map(self):
        self.check(("=MAP({1,2;3,4},LAMBDA(x,x*10))", [[10, 20], [30, 40]]), ("=MAP(5,LAMBDA(x,x+1))", 6),
                   ("=MAP({1,2},{10;20},LAMBDA(x,y,x+y))", [[11, 12], [21, 22]]),
                   ("=MAP({1,2,3},{1,2},LAMBDA(x,y,x+y))", [[2, 4, "#NA"]]),
                   ("=MAP({1,#REF!},LAMBDA(x,ISERROR(x)))", [[False, True]]), ("=MAP(#NA!,LAMBDA(x,ISNA(x)))", True),
                   ("=MAP(#NA!,LAMBDA(x,1))", 1), ("=MAP({1,2},LAMBDA(x,{1,2}))", [["#CALC", "#CALC"]]),
                   ("=MAP({1,2},LAMBDA(x,A1:A2))", [["#CALC", "#CALC"]]), ("=MAP({1,2},LAMBDA(x,A1))", [[3, 3]]),
                   ("=MAP({1,2},LAMBDA(x,A:J))", [["#SIZE", "#SIZE"]]),
                   ("=MAP({1,2},LAMBDA(x,LAMBDA(1)))", [["#CALC", "#CALC"]]),
                   ("=MAP({1,2},LAMBDA(1))", [["#VALUE", "#VALUE"]]),
                   ("=MAP({1,2},LAMBDA(x,y,1))", [["#VALUE", "#VALUE"]]),
                   ("=MAP(1,2,3,4,LAMBDA(a,b,c,d,a&b&c&d))", "1234"), ("=MAP(1,2)", "#VALUE"),
                   ("=MAP(1,A1)", "#VALUE"), ("=MAP(1,#NA!)", "#NA"), ("=MAP(1,)", "#VALUE"),
                   ("=MAP(#REF!,#NA!)", "#NA"), ("=MAP(SEQUENCE(13),SEQUENCE(1,5),LAMBDA(x,y,1))", "#SIZE"),
                   ("=MAP(SEQUENCE(13),SEQUENCE(1,5),3)", "#VALUE"),
                   ("=MAP(A1:B2,LAMBDA(x,x&\"!\"))", [["3!", "c!"], ["1!", "a!"]]),
                   ("=MAP(J8:J9,LAMBDA(x,ISBLANK(x)))", [[True], [True]]), ("=MAP(J8:J9,LAMBDA(x,x))", [[0], [0]]),
                   ("=MAP(A:J,LAMBDA(x,x))", "#SIZE"), ("=MAP(A:J,LAMBDA(x,1))", 1),
                   ("=MAP(LAMBDA(1),LAMBDA(x,ISERROR(x)))", True), ("=MAP(1,LAMBDA(x,ISREF(x)))", False),
                   ("=MAP(A1,LAMBDA(x,ISREF(x)))", False), ("=SUM(MAP(J9,LAMBDA(x,)))", 0),
                   ("=COUNT(MAP(J8:J9,LAMBDA(x,x)))", 0),
                   ("=LET(k,10,MAP({1,2},LAMBDA(x,x+k)))", [[11, 12]]),
                   ("=LET(f,LAMBDA(x,x*x),MAP({2,3},f))", [[4, 9]]),
                   ("=MAP({1;2},{1,2,3;4,5,6},LAMBDA(x,y,x*y))", [[1, 2, 3], [8, 10, 12]]),
                   ("=ROWS(MAP(SEQUENCE(16),SEQUENCE(1,4),LAMBDA(x,y,1)))", 16))
        self.check_reads(("=MAP(A1:A2,LAMBDA(x,x+B1))", "A1 A2 B1"), ("=MAP(A1:A2,B1:B2,5)", "A1 A2 B1 B2"),
            ("=MAP({1,2,3},{1,2},LAMBDA(x,y,INDEX(A1:C1,x)))", "A1 B1"),
            ("=MAP(SEQUENCE(13),SEQUENCE(1,5),LAMBDA(x,y,A1))", ""),
            ("=MAP(A1:A3,LAMBDA(x,INDEX(B1:B3,x)))", "A1 A2 A3 B3 B1 B2"))
        self.check_unknown("=MAP(A1:A3,LAMBDA(x,INDEX(B1:B3,x)))")

    def test_reduce(self):
        self.check((f"=REDUCE(\"\",{{1,2;3,4}},{G})", "1234"), ("=REDUCE(0,{1,2,3},LAMBDA(a,x,a+x))", 6),
                   ("=REDUCE(10,5,LAMBDA(a,x,a-x))", 5), ("=REDUCE({1,2},{3,4},LAMBDA(a,x,a+x))", [[8, 9]]),
                   ("=REDUCE(1,{2,3},LAMBDA(a,x,HSTACK(a,x)))", [[1, 2, 3]]),
                   ("=REDUCE(#NA!,{1,2},LAMBDA(a,x,IFNA(a,0)+x))", 3),
                   ("=REDUCE(0,#REF!,LAMBDA(a,x,ISERROR(x)))", True),
                   ("=REDUCE(0,{1,#REF!},LAMBDA(a,x,IFERROR(a+x,9)))", 9),
                   ("=REDUCE(0,{1,2},LAMBDA(a,x,A1:A2))", [[3], [1]]),
                   ("=REDUCE(0,{1,2},LAMBDA(a,x,ISREF(a)))", False), ("=REDUCE(0,{1,2},LAMBDA(a,1))", "#VALUE"),
                   ("=REDUCE(0,{1,2},5)", "#VALUE"), ("=REDUCE(0,{1,2},#NA!)", "#NA"),
                   ("=REDUCE(0,{1,2},)", "#VALUE"), ("=REDUCE(,{1,2},LAMBDA(a,x,a&x))", "12"),
                   ("=REDUCE(0,,LAMBDA(a,x,ISBLANK(x)))", True), ("=REDUCE(0,{1,2},LAMBDA(a,x,LAMBDA(1)))", "#CALC"),
                   ("=REDUCE(0,J9,LAMBDA(a,x,x))", 0), ("=REDUCE(A1:A2,1,LAMBDA(a,x,ROWS(a)))", 2),
                   ("=REDUCE(0,A:J,LAMBDA(a,x,ERRNUMBER(x)))", 8), ("=REDUCE(LAMBDA(1),1,LAMBDA(a,x,a))", "#CALC"),
                   ("=REDUCE(0,{1;2;3},LAMBDA(a,x,A1*x))", 9))
        self.check_reads(("=REDUCE(E1,A1:A2,LAMBDA(a,x,a+x*B1))", "E1 A1 A2 B1"), ("=REDUCE(E1,A1:A2,5)", "E1 A1 A2"))
        self.check_unknown("=REDUCE(E1,A1:A2,LAMBDA(a,x,a+x*D2))")

    def test_scan(self):
        self.check(("=SCAN(0,{1,2,3},LAMBDA(a,x,a+x))", [[1, 3, 6]]),
                   (f"=SCAN(\"\",{{1,2;3,4}},{G})", [["1", "12"], ["123", "1234"]]),
                   ("=SCAN(0,5,LAMBDA(a,x,a+x))", 5),
                   ("=SCAN(#NA!,{1,2},LAMBDA(a,x,1))", "#NA"), ("=SCAN({1,2},{1,2},LAMBDA(a,x,1))", "#VALUE"),
                   ("=SCAN(#NA!,{1,2},#REF!)", "#NA"), ("=SCAN({1,2},#NA!,#REF!)", "#VALUE"),
                   ("=SCAN(0,{1,2},LAMBDA(a,x,{1,2}))", [["#CALC", "#CALC"]]),
                   ("=SCAN(0,{1,2,3},LAMBDA(a,x,IF(x=1,{1,2},IFERROR(a,7)+x)))", [["#CALC", 9, 12]]),
                   ("=SCAN(0,{1,#REF!,3},LAMBDA(a,x,IFERROR(a+x,0)))", [[1, 0, 3]]), ("=SCAN(0,{1,2},5)", "#VALUE"),
                   ("=SCAN(0,{1,2},#NA!)", "#NA"), ("=SCAN(,{1;2},LAMBDA(a,x,a+x))", [[1], [3]]),
                   ("=SCAN(0,#REF!,LAMBDA(a,x,ISERROR(x)))", True),
                   ("=SCAN(0,{1,2},LAMBDA(1))", [["#VALUE", "#VALUE"]]),
                   ("=SCAN(0,A1:A3,LAMBDA(a,x,A1))", [[3], [3], [3]]),
                   ("=SCAN(LAMBDA(1),1,LAMBDA(a,x,1))", "#CALC"), ("=SCAN(A1:A2,1,LAMBDA(a,x,1))", "#VALUE"),
                   ("=SCAN(0,A:J,LAMBDA(a,x,ERRNUMBER(x)))", 8), ("=SCAN(J9,1,LAMBDA(a,x,ISBLANK(a)))", True))
        self.check_reads(("=SCAN(E1,A1:A2,LAMBDA(a,x,a+x*D2))", "E1 A1 A2 D2"),
            ("=SCAN(D1,A1:A2,LAMBDA(a,x,1))", "D1"))
        self.check_unknown("=SCAN(E1,A1:A2,LAMBDA(a,x,a+x*D2))")

    def test_makearray(self):
        self.check(("=MAKEARRAY(2,3,LAMBDA(i,j,i*10+j))", [[11, 12, 13], [21, 22, 23]]),
                   ("=MAKEARRAY(1,1,LAMBDA(i,j,i+j))", 2), ("=MAKEARRAY(0,1,LAMBDA(i,j,1))", "#VALUE"),
                   ("=MAKEARRAY(1,0,LAMBDA(i,j,1))", "#VALUE"), ("=MAKEARRAY(-1,1,5)", "#VALUE"),
                   ("=MAKEARRAY(0,1,#NA!)", "#NA"), ("=MAKEARRAY(#REF!,1,#NA!)", "#REF"),
                   ("=MAKEARRAY(1,#REF!,#NA!)", "#REF"), ("=MAKEARRAY(1,,LAMBDA(i,j,1))", "#VALUE"),
                   ("=MAKEARRAY(21,1,LAMBDA(i,j,1))", "#SIZE"), ("=MAKEARRAY(1,21,LAMBDA(i,j,1))", "#SIZE"),
                   ("=MAKEARRAY(5,13,LAMBDA(i,j,1))", "#SIZE"),
                   ("=MAKEARRAY(999999999999999,999999999999999,LAMBDA(i,j,1))", "#SIZE"),
                   ("=MAKEARRAY(2.9,1.9,LAMBDA(i,j,i))", [[1], [2]]),
                   ("=MAKEARRAY(1,2,LAMBDA(i,j,{1,2}))", [["#CALC", "#CALC"]]),
                   ("=MAKEARRAY(1,2,LAMBDA(i,i))", [["#VALUE", "#VALUE"]]), ("=MAKEARRAY(1,2,5)", "#VALUE"),
                   ("=MAKEARRAY({1,2},1,LAMBDA(i,j,1))", "#VALUE"), ("=ROWS(MAKEARRAY(16,4,LAMBDA(i,j,1)))", 16),
                   ("=MAKEARRAY(1,2,LAMBDA(i,j,A1))", [[3, 3]]),
                   ("=MAKEARRAY(1,2,LAMBDA(i,j,LAMBDA(1)))", [["#CALC", "#CALC"]]))
        self.check_reads(("=MAKEARRAY(D2,E1,LAMBDA(i,j,INDEX(A1:A3,i)))", "D2 E1 A1 A2"),
            ("=MAKEARRAY(5,13,LAMBDA(i,j,A1))", ""), ("=MAKEARRAY(D1,E1,5)", "D1"))
        self.check_unknown("=MAKEARRAY(D2,E1,LAMBDA(i,j,INDEX(A1:A3,i)))")

    def test_by_row_and_column(self):
        table = "{1,2,3;4,5,6}"
        self.check((f"=BYROW({table},LAMBDA(r,SUM(r)))", [[6], [15]]),
                   (f"=BYCOL({table},LAMBDA(c,SUM(c)))", [[5, 7, 9]]),
                   (f"=BYROW({table},LAMBDA(r,COLUMNS(r)))", [[3], [3]]),
                   (f"=BYCOL({table},LAMBDA(c,ROWS(c)&COLUMNS(c)))", [["21", "21", "21"]]),
                   ("=BYROW({1;2},LAMBDA(r,r+1))", [[2], [3]]), ("=BYCOL({1,2},LAMBDA(c,c+1))", [[2, 3]]),
                   ("=BYROW(5,LAMBDA(r,r+1))", 6), ("=BYCOL(5,LAMBDA(r,r+1))", 6),
                   ("=BYROW({1,2},LAMBDA(r,SUM(r)))", 3), ("=BYCOL({1;2},LAMBDA(r,SUM(r)))", 3),
                   (f"=BYROW({table},LAMBDA(r,r))", [["#CALC"], ["#CALC"]]),
                   (f"=BYCOL({table},LAMBDA(r,r))", [["#CALC"] * 3]), ("=BYROW(#NA!,LAMBDA(r,ISNA(r)))", True),
                   ("=BYCOL(#NA!,LAMBDA(r,ISNA(r)))", True), (f"=BYROW({table},5)", "#VALUE"),
                   (f"=BYCOL({table},5)", "#VALUE"), (f"=BYROW({table},#NA!)", "#NA"),
                   (f"=BYCOL({table},#NA!)", "#NA"),
                   (f"=BYROW({table},LAMBDA(1))", [["#VALUE"], ["#VALUE"]]),
                   (f"=BYROW({table},LAMBDA(r,LAMBDA(1)))", [["#CALC"], ["#CALC"]]),
                   ("=BYROW(A1:B3,LAMBDA(r,CONCAT(r)))", [["3c"], ["1a"], ["2b"]]),
                   ("=BYCOL(A1:B3,LAMBDA(r,CONCAT(r)))", [["312", "cab"]]),
                   ("=BYROW(LAMBDA(1),LAMBDA(r,ERRNUMBER(r)))", 7), ("=BYCOL(A:J,LAMBDA(r,ERRNUMBER(r)))", 8),
                   ("=BYROW(A1:A2,LAMBDA(r,ISREF(r)))", [[False], [False]]))
        self.check_reads(("=BYROW(A1:B2,LAMBDA(r,D2))", "A1 B1 A2 B2 D2"), ("=BYCOL(A1:A2,5)", "A1 A2"))
        self.check_unknown("=BYROW(A1:B2,LAMBDA(r,D2))")
        self.check_unknown("=BYCOL(A1:B2,LAMBDA(r,D2))")

    def test_sequence_of_calls(self):
        # The sheet's cells are asked in the sequence of the members.
        for formula, told in (("=MAP({2,1;4,3},LAMBDA(x,INDEX(A1:A4,x)))", "2143"),
                              ("=BYROW({3;1},LAMBDA(x,INDEX(A1:A4,x)))", "31"),
                              ("=BYCOL({3,1},LAMBDA(x,INDEX(A1:A4,x)))", "31"),
                              ("=SCAN(0,{2,4;1,3},LAMBDA(a,x,INDEX(A1:A4,x)))", "2413"),
                              ("=REDUCE(0,{2,4;1,3},LAMBDA(a,x,INDEX(A1:A4,x)))", "2413"),
                              ("=MAKEARRAY(2,2,LAMBDA(i,j,INDEX(A1:A4,3-i+j*0+(j-1)*2)))", "2413")):
            reads = evaluated(read(formula), 0, world(CELLS))[1]
            self.assertEqual("".join([str(one[2] + 1) for one in reads]), told, formula)

    def test_functions_that_fail_alone(self):
        self.assertEqual(result("=MAP({1,0},LAMBDA(x,1/x))", CELLS)[3][1], ("error", "DIV"))
        self.check(("=SUM(MAP({1,0},LAMBDA(x,IFERROR(1/x,5))))", 6), (f"=MAP({{1,2}},{F})", [[1, 2]]))


if __name__ == "__main__":
    unittest.main()
