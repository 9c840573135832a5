"""Tests of [57]: library functions that make arrays."""

import unittest

from tests.helping import SCALE, TOP, FormulaCase, result

CELLS = {"A1": 3, "A2": 1, "A3": 2, "B1": "c", "B2": "a", "B3": "b", "D1": "#DIV", "D2": 2, "E1": 1, "F1": -1,
    "G1": 0}
GREAT = "999999999999999"


def column(*members):
    return [[one] for one in members]


class Made(FormulaCase):
    CELLS = CELLS

    def test_sequence(self):
        self.check(("=SEQUENCE(3)", column(1, 2, 3)), ("=SEQUENCE(2,3)", [[1, 2, 3], [4, 5, 6]]), ("=SEQUENCE(1)", 1),
                   ("=SEQUENCE(1,3,5)", [[5, 6, 7]]), ("=SEQUENCE(1,3,5,-2)", [[5, 3, 1]]),
                   ("=SEQUENCE(2,1,,)", column(0, 0)), ("=SEQUENCE(2,1,,3)", column(0, 3)),
                   ("=SEQUENCE(2.9,1.9)", column(1, 2)),
                   ("=SEQUENCE(0)", "#VALUE"), ("=SEQUENCE(-1)", "#VALUE"), ("=SEQUENCE(1,0)", "#VALUE"),
                   ("=SEQUENCE(1,)", "#VALUE"), ("=SEQUENCE(IF(TRUE,))", "#VALUE"), ("=SEQUENCE(21)", "#SIZE"),
                   ("=SEQUENCE(1,21)", "#SIZE"), ("=SEQUENCE(5,13)", "#SIZE"),
                   (f"=SEQUENCE({GREAT},{GREAT})", "#SIZE"),
                   (f"=SEQUENCE({GREAT},0)", "#VALUE"), (f"=SEQUENCE(3,1,{GREAT})",
                   column(("number", 999999999999999 * SCALE), "#NUM", "#NUM")),
                   (f"=SEQUENCE(3,1,-{GREAT},-1)", column(("number", -999999999999999 * SCALE), "#NUM", "#NUM")),
                   (f"=SEQUENCE(3,1,1,{GREAT})", column(1, "#NUM", "#NUM")),
                   ("=SEQUENCE(\"x\",#NA!)", "#VALUE"), ("=SEQUENCE(0,#NA!)", "#NA"),
                   ("=SEQUENCE(1,1,\"x\")", "#VALUE"), ("=SEQUENCE(1,1,1,#REF!)", "#REF"),
                   ("=SEQUENCE({1,2})", "#VALUE"), ("=SEQUENCE(2,1,0.5,0.25)",
                   column(("number", 500000), ("number", 750000))), ("=SEQUENCE(TRUE,\"2\")", [[1, 2]]))
        self.assertEqual(result("=SEQUENCE(16,4)")[3][-1], ("number", 64 * SCALE))
        self.assertEqual(result("=SEQUENCE(20,3)")[1:3], (20, 3))
        self.check_unknown("=SEQUENCE(E1,D2,A1,F1)")
        self.check_reads(("=SEQUENCE(E1,D2,A1,F1)", "E1 D2 A1 F1"), ("=SEQUENCE(D1,D2)", "D1"))

    def test_munit(self):
        self.check(("=MUNIT(1)", 1), ("=MUNIT(2)", [[1, 0], [0, 1]]),
            ("=MUNIT(3.9)", [[1, 0, 0], [0, 1, 0], [0, 0, 1]]), ("=MUNIT(0)", "#VALUE"), ("=MUNIT(9)", "#VALUE"),
            ("=MUNIT(-1)", "#VALUE"), ("=MUNIT(0.5)", "#VALUE"), ('=MUNIT("x")', "#VALUE"), ("=MUNIT(#NA!)", "#NA"),
            ("=MUNIT({1,2})", "#VALUE"))
        self.assertEqual(result("=MUNIT(8)")[1:3], (8, 8))
        self.assertEqual(result("=SUM(MUNIT(8))"), ("number", 8 * SCALE))

    def test_transpose(self):
        self.check(("=TRANSPOSE({1,2,3;4,5,6})", [[1, 4], [2, 5], [3, 6]]), ("=TRANSPOSE(5)", 5),
            ("=TRANSPOSE({1,2})", column(1, 2)), ("=TRANSPOSE(#NA!)", "#NA"),
            ("=TRANSPOSE({1,#NA!})", column(1, "#NA")), ("=TRANSPOSE(A1:B2)", [[3, 1], ["c", "a"]]),
            ("=TRANSPOSE(LAMBDA(1))", "#CALC"), ("=TRANSPOSE(A:J)", "#SIZE"))
        self.assertEqual(result("=TRANSPOSE(SEQUENCE(3,20))")[1:3], (20, 3))
        self.check_unknown("=TRANSPOSE(A1:B2)")


class Ordered(FormulaCase):
    CELLS = CELLS

    def test_sort(self):
        self.check(("=SORT({3;1;2})", column(1, 2, 3)), ("=SORT({3;1;2},1,-1)", column(3, 2, 1)),
                   ("=SORT(A1:B3)", [[1, "a"], [2, "b"], [3, "c"]]),
                   ("=SORT(A1:B3,2,-1)", [[3, "c"], [2, "b"], [1, "a"]]),
                   ("=SORT({1,5;2,4;3,5},2)", [[2, 4], [1, 5], [3, 5]]),
                   ("=SORT({1,5;2,4;3,5},2,-1)", [[1, 5], [3, 5], [2, 4]]),
                   ("=SORT({TRUE;\"b\";#NA!;2;\"A\";#DIV!;FALSE;-1})",
                   column(-1, 2, "A", "b", False, True, "#DIV", "#NA")),
                   ("=SORT(VSTACK(J9,{1;#NA!}),1,1)", column(1, "#NA", 0)),
                   ("=SORT(VSTACK({1;#NA!},J9),1,-1)", column(0, "#NA", 1)),
                   ('=SORT({"b";"a";"B";"A"})', column("A", "a", "B", "b")),
                   ('=SORT({"a";"A"},1,-1)', column("a", "A")),
                   ("=SORT(5)", 5), ("=SORT({2,1})", [[2, 1]]), ("=SORT({2;1},0)", "#VALUE"),
                   ("=SORT({2;1},2)", "#VALUE"), ("=SORT({2;1},-1)", "#VALUE"), ("=SORT({2;1},1,0)", "#VALUE"),
                   ("=SORT({2;1},1,2)", "#VALUE"), ("=SORT({2;1},1,)", "#VALUE"), ("=SORT({2;1},)", "#VALUE"),
                   ("=SORT({2;1},1.9,1.9)", column(1, 2)), ("=SORT({2;1},1,-0.5)", column(2, 1)),
                   ("=SORT(#NA!,#REF!)", "#NA"), ("=SORT({2;1},9,#NA!)", "#NA"), ("=SORT({2;1},#REF!,#NA!)", "#REF"),
                   ("=SORT(LAMBDA(1))", "#CALC"), ("=SORT({2;1},{1,2})", "#VALUE"))
        self.check_unknown("=SORT(A1:B3,E1,F1)")
        self.check_reads(("=SORT(A1:A3,E1,F1)", "A1 A2 A3 E1 F1"), ("=SORT(D1,E1)", "D1"))

    def test_sortby(self):
        self.check(("=SORTBY({1;2;3},{3;1;2})", column(2, 3, 1)), ("=SORTBY({1;2;3},{3;1;2},-1)", column(1, 3, 2)),
                   ("=SORTBY({1,9;2,8},{2;1})", [[2, 8], [1, 9]]), ("=SORTBY({1;2;3},{1;1;0})", column(3, 1, 2)),
                   ("=SORTBY({1;2;3},{1;1;0},-1)", column(1, 2, 3)), ("=SORTBY({1,2},5)", [[1, 2]]),
                   ("=SORTBY(4,5)", 4),
                   ("=SORTBY({1;2},{1,2})", "#VALUE"),
                   ("=SORTBY({1;2},{1;2;3})", "#VALUE"), ("=SORTBY({1;2},1)", "#VALUE"),
                   ("=SORTBY({1,2},{1,2})", "#VALUE"), ("=SORTBY({1;2},{1;2},0)", "#VALUE"),
                   ("=SORTBY({1;2},{1;2},)", "#VALUE"), ("=SORTBY({1;2},{1;2},2)", "#VALUE"),
                   ("=SORTBY(#NA!,#REF!)", "#NA"), ("=SORTBY({1;2},#REF!,#NA!)", "#REF"),
                   ("=SORTBY({1;2},{1,2},#NA!)", "#NA"), ("=SORTBY({1;2},{#NA!;1})", column(2, 1)),
                   ("=SORTBY({1;2},{1,2;3,4})", "#VALUE"))
        self.check_unknown("=SORTBY(A1:A3,B1:B3,F1)")

    def test_unique(self):
        self.check(("=UNIQUE({1;2;1;3;2})", column(1, 2, 3)), ("=UNIQUE({1,2;1,3;1,2})", [[1, 2], [1, 3]]),
                   ("=UNIQUE({1;1})", 1), ('=UNIQUE({"a";"A";"a"})', column("a", "A")),
                   ('=UNIQUE({1;"1";TRUE})', column(1, "1", True)),
                   ("=UNIQUE({#NA!;#NA!;#REF!})", column("#NA", "#REF")),
                   ("=UNIQUE({1,1})", [[1, 1]]), ("=UNIQUE(VSTACK(J9,0,\"\"))", column(0, 0, "")),
                   ("=UNIQUE(#NA!)", "#NA"), ("=UNIQUE(7)", 7), ("=UNIQUE({1,2;2,1})", [[1, 2], [2, 1]]),
                   ("=UNIQUE({1;1.0})", 1))
        self.check_unknown("=UNIQUE(A1:B3)")


class Chosen(FormulaCase):
    CELLS = CELLS

    def test_filter(self):
        self.check(("=FILTER({1;2;3},{1;0;1})", column(1, 3)), ("=FILTER({1,2;3,4},{TRUE;FALSE})", [[1, 2]]),
                   ("=FILTER({1,2;3,4},{TRUE,FALSE})", column(1, 3)), ("=FILTER({1,2;3,4},{0,1})", column(2, 4)),
                   ("=FILTER({1,2;3,4},{1,1})", [[1, 2], [3, 4]]), ("=FILTER({1;2},{0;0})", "#CALC"),
                   ("=FILTER({1;2},{0;0},7)", 7), ("=FILTER({1;2},{0;0},{7,8})", [[7, 8]]),
                   ("=FILTER({1;2},{0;0},)", 0), ("=FILTER({1;2},{0;0},#REF!)", "#REF"),
                   ("=FILTER({1;2},{0;0},A1:B1)", [[3, "c"]]), ("=FILTER({1;2},{0;0},LAMBDA(1))", "#CALC"),
                   ("=FILTER({1;2},{0;0},A:J)", "#SIZE"), ("=FILTER({1;2},{1;0},1/0)", 1),
                   ("=FILTER({1;2},{1,0})", "#VALUE"), ("=FILTER({1;2},{1;0;1})", "#VALUE"),
                   ("=FILTER({1,2;3,4},1)", "#VALUE"), ("=FILTER({1,2;3,4},{1,1;0,0})", "#VALUE"),
                   ("=FILTER(5,1)", 5), ("=FILTER(5,0)", "#CALC"), ("=FILTER({1,2},1)", [[1, 2]]),
                   ("=FILTER({1;2},1)", column(1, 2)), ("=FILTER({1,2},0)", "#CALC"),
                   ("=FILTER({1;2;3},{\"true\";\"x\";#NA!})", "#VALUE"), ("=FILTER({1;2;3},{1;#NA!;\"x\"})", "#NA"),
                   ("=FILTER({1;2;3},{0;\"x\";#NA!},5)", "#VALUE"), ("=FILTER({1;#NA!},{0;1})", "#NA"),
                   ("=FILTER({1;#NA!;3},{1;1;0})", column(1, "#NA")),
                   ("=FILTER(#NA!,#REF!)", "#NA"), ("=FILTER({1;2},#REF!)", "#REF"),
                   ("=FILTER({1;2},{#NA!,1})", "#VALUE"), ("=FILTER(A1:A3,J1:J3)", "#CALC"),
                   ("=FILTER({1,2,3},{1,0,1})", [[1, 3]]), ("=FILTER(A1:B3,A1:A3>1)", [[3, "c"], [2, "b"]]),
                   ("=ISREF(FILTER(1,0,A1))", False), ("=FILTER({1,2;3,4},{1,0})", column(1, 3)))
        self.check_reads(("=FILTER({1;2},{1;0},A1)", ""), ("=FILTER({1;2},{0;0},A1)", "A1"),
            ("=FILTER({1;2},{1,0},A1)", ""), ("=FILTER(A1:A2,E1:E2)", "A1 A2 E1 E2"),
            ("=FILTER({1;2},{0;#NA!},A1)", ""))
        self.check_unknown("=FILTER(A1:A2,G1:G2,B1:B2)")

    def test_take_and_drop(self):
        table = "{1,2,3;4,5,6;7,8,9}"
        for n, m, take, drop in (("1", None, [[1, 2, 3]], [[4, 5, 6], [7, 8, 9]]),
                                 ("-1", None, [[7, 8, 9]], [[1, 2, 3], [4, 5, 6]]),
                                 ("3", None, [[1, 2, 3], [4, 5, 6], [7, 8, 9]], "#CALC"),
                                 ("9", None, [[1, 2, 3], [4, 5, 6], [7, 8, 9]], "#CALC"),
                                 ("-9", None, [[1, 2, 3], [4, 5, 6], [7, 8, 9]], "#CALC"),
                                 ("0", None, "#CALC", [[1, 2, 3], [4, 5, 6], [7, 8, 9]]),
                                 ("2", "1", column(1, 4), [[8, 9]]), ("2", "-1", column(3, 6), [[7, 8]]),
                                 ("-2", "2", [[4, 5], [7, 8]], 3), ("1", "", [[1, 2, 3]], [[4, 5, 6], [7, 8, 9]]),
                                 ("1", "0", "#CALC", [[4, 5, 6], [7, 8, 9]]),
                                 ("0", "1", "#CALC", [[2, 3], [5, 6], [8, 9]]),
                                 ("", "1", "#CALC", [[2, 3], [5, 6], [8, 9]]),
                                 ("1", "3", [[1, 2, 3]], "#CALC"), ("1", "-3", [[1, 2, 3]], "#CALC"),
                                 ("1", "99", [[1, 2, 3]], "#CALC"), ("1.9", "1.9", 1, [[5, 6], [8, 9]]),
                                 ("-0.5", None, [[7, 8, 9]], [[1, 2, 3], [4, 5, 6]]), ("#NA!", "#REF!", "#NA", "#NA"),
                                 ("1", "#REF!", "#REF", "#REF"), ('"x"', None, "#VALUE", "#VALUE"),
                                 ("{1,2}", None, "#VALUE", "#VALUE"), ("1", "J9", "#CALC", [[4, 5, 6], [7, 8, 9]]),
                                 (GREAT, "-" + GREAT, [[1, 2, 3], [4, 5, 6], [7, 8, 9]], "#CALC"),
                                 ("2", "2", [[1, 2], [4, 5]], 9)):
            more = f"{n}" if m is None else f"{n},{m}"
            self.check((f"=TAKE({table},{more})", take), (f"=DROP({table},{more})", drop))
        self.check(("=TAKE(5,1)", 5), ("=TAKE(5,-1,-1)", 5), ("=DROP(5,0)", 5), ("=DROP(5,1)", "#CALC"),
            ("=TAKE(#NA!,#REF!)", "#NA"), ("=DROP(#NA!,0)", "#NA"), ("=LET(m,,TAKE({1,2},1,m))", "#CALC"),
            ("=LET(m,,DROP({1,2},0,m))", [[1, 2]]), ("=TAKE(LAMBDA(1),1)", "#CALC"), ("=TAKE(A1:B3,-1)", [[2, "b"]]))
        self.check_unknown("=TAKE(A1:B3,E1,F1)")
        self.check_unknown("=DROP(A1:B3,E1,F1)")

    def test_choosing_lines(self):
        table = "{1,2,3;4,5,6}"
        self.check((f"=CHOOSEROWS({table},2)", [[4, 5, 6]]),
                   (f"=CHOOSEROWS({table},2,1,2)", [[4, 5, 6], [1, 2, 3], [4, 5, 6]]),
                   (f"=CHOOSEROWS({table},-1,-2)", [[4, 5, 6], [1, 2, 3]]), (f"=CHOOSEROWS({table},0)", "#VALUE"),
                   (f"=CHOOSEROWS({table},3)", "#VALUE"), (f"=CHOOSEROWS({table},-3)", "#VALUE"),
                   (f"=CHOOSEROWS({table},1,)", "#VALUE"),
                   (f"=CHOOSEROWS({table},1.9)", [[1, 2, 3]]), (f"=CHOOSEROWS({table},-0.5)", [[4, 5, 6]]),
                   (f"=CHOOSEROWS({table},9,#NA!)", "#NA"), (f'=CHOOSEROWS({table},"x")', "#VALUE"),
                   ("=CHOOSEROWS(#NA!,#REF!)", "#NA"), ("=CHOOSEROWS(5,1,-1)", column(5, 5)),
                   (f"=CHOOSEROWS({table},{{1,2}})", "#VALUE"),
                   (f"=CHOOSECOLS({table},3)", column(3, 6)), (f"=CHOOSECOLS({table},-1,1)", [[3, 1], [6, 4]]),
                   (f"=CHOOSECOLS({table},4)", "#VALUE"), (f"=CHOOSECOLS({table},0)", "#VALUE"),
                   (f"=CHOOSECOLS({table},-4)", "#VALUE"), (f"=CHOOSECOLS({table},-3)", column(1, 4)),
                   ("=CHOOSECOLS(5,1)", 5), (f"=CHOOSECOLS({table},9,#NA!)", "#NA"),
                   ("=CHOOSECOLS(A1:B3,2)", column("c", "a", "b")))
        for many in (5, 6, 7):
            numbers = ",1" * many
            self.check((f"=ROWS(CHOOSEROWS(SEQUENCE(1,10){numbers}))", many if many < 7 else "#SIZE"),
                (f"=COLUMNS(CHOOSECOLS(SEQUENCE(10){numbers}))", many if many < 7 else "#SIZE"))
        self.check(("=CHOOSEROWS(SEQUENCE(1,20),1,1,1,1,2)", "#VALUE"),
            ("=CHOOSEROWS(SEQUENCE(1,20),1,1,1,1)", "#SIZE"), ("=CHOOSECOLS(SEQUENCE(20),1,1,1,1)", "#SIZE"))
        self.check_unknown("=CHOOSEROWS(A1:B3,E1,F1)")
        self.check_unknown("=CHOOSECOLS(A1:B3,E1,F1)")


class Joined(FormulaCase):
    CELLS = CELLS

    def test_stacks(self):
        self.check(("=VSTACK(1,2)", column(1, 2)), ("=VSTACK({1,2},3)", [[1, 2], [3, "#NA"]]),
                   ("=VSTACK(3,{1,2})", [[3, "#NA"], [1, 2]]), ("=VSTACK({1;2},{3,4,5},6)",
                   [[1, "#NA", "#NA"], [2, "#NA", "#NA"], [3, 4, 5], [6, "#NA", "#NA"]]), ("=VSTACK(7)", 7),
                   ("=VSTACK(#NA!,#REF!)", "#NA"), ("=VSTACK({1,#NA!},2)", [[1, "#NA"], [2, "#NA"]]),
                   ("=VSTACK(1,)", column(1, 0)),
                   ("=HSTACK(1,2)", [[1, 2]]), ("=HSTACK({1;2},3)", [[1, 3], [2, "#NA"]]),
                   ("=HSTACK(3,{1;2})", [[3, 1], ["#NA", 2]]),
                   ("=HSTACK({1,2},{3;4;5},6)", [[1, 2, 3, 6], ["#NA", "#NA", 4, "#NA"], ["#NA", "#NA", 5, "#NA"]]),
                   ("=HSTACK(7)", 7), ("=HSTACK(1,#REF!)", "#REF"), ("=HSTACK(A1:A2,B1:B2)", [[3, "c"], [1, "a"]]),
                   ("=HSTACK(LAMBDA(1),1)", "#CALC"),
                   ("=ROWS(VSTACK(SEQUENCE(19),1))", 20), ("=VSTACK(SEQUENCE(20),1)", "#SIZE"),
                   ("=COLUMNS(HSTACK(SEQUENCE(1,19),1))", 20), ("=HSTACK(SEQUENCE(1,20),1)", "#SIZE"),
                   ("=ROWS(VSTACK(SEQUENCE(1,16),1,1,1))", 4), ("=VSTACK(SEQUENCE(1,16),1,1,1,1)", "#SIZE"),
                   ("=HSTACK(SEQUENCE(16),1,1,1,1)", "#SIZE"), ("=COLUMNS(HSTACK(SEQUENCE(16),1,1,1))", 4),
                   ("=VSTACK(1,2,3,4,5,6,7,8)", column(1, 2, 3, 4, 5, 6, 7, 8)))
        self.check_reads(("=VSTACK(A1,D1,A2)", "A1 D1"), ("=HSTACK(D1,A2)", "D1"),
            ("=HSTACK(A1:A2,D1:D2)", "A1 A2 D1 D2"))
        self.check_unknown("=VSTACK(A1:A2,B1)")
        self.check_unknown("=HSTACK(A1:A2,B1)")

    def test_expand(self):
        self.check(("=EXPAND(1,2,2)", [[1, "#NA"], ["#NA", "#NA"]]), ("=EXPAND({1,2},2,3,0)", [[1, 2, 0], [0, 0, 0]]),
                   ("=EXPAND({1,2},1,2)", [[1, 2]]), ("=EXPAND(1,1,1)", 1), ("=EXPAND({1,2},1,1)", "#VALUE"),
                   ("=EXPAND({1;2},1,1)", "#VALUE"), ("=EXPAND(1,0,1)", "#VALUE"), ("=EXPAND(1,1,0)", "#VALUE"),
                   ("=EXPAND(1,,2)", "#VALUE"), ("=EXPAND(1,2,)", "#VALUE"), ("=EXPAND(1,2,1,)", column(1, 0)),
                   ("=EXPAND(1,2,1,#REF!)", column(1, "#REF")), ("=EXPAND(1,2,1,{1,2})", column(1, "#VALUE")),
                   ("=EXPAND(1,2,1,LAMBDA(1))", column(1, "#CALC")), ("=EXPAND(1,2,1,A:J)", column(1, "#SIZE")),
                   ("=EXPAND(1,2,1,\"x\")", column(1, "x")), ("=EXPAND(#NA!,#REF!,1)", "#NA"),
                   ("=EXPAND(1,#REF!,#NA!)", "#REF"), ("=EXPAND(1,2,#NA!,#REF!)", "#NA"),
                   ("=EXPAND(1,2.9,1.9)", column(1, "#NA")),
                   ("=EXPAND(1,21,1)", "#SIZE"), ("=EXPAND(1,1,21)", "#SIZE"), ("=EXPAND(1,5,13)", "#SIZE"),
                   ("=ROWS(EXPAND(1,16,4))", 16), (f"=EXPAND({{1;2}},1,{GREAT})", "#VALUE"),
                   (f"=EXPAND(1,{GREAT},{GREAT})", "#SIZE"), ('=EXPAND(1,"x",1)', "#VALUE"),
                   ("=EXPAND({#NA!,1},1,3,0)", [["#NA", 1, 0]]))
        self.check_reads(("=EXPAND(A1,E1,D2,B1)", "A1 E1 D2 B1"), ("=EXPAND(D1,E1,D2)", "D1"))
        self.check_unknown("=EXPAND(A1,E1,D2,B1)")

    def test_one_line(self):
        self.check(("=TOCOL({1,2;3,4})", column(1, 2, 3, 4)), ("=TOCOL(5)", 5),
                   ("=TOCOL({1;#NA!})", column(1, "#NA")), ("=TOCOL(#NA!)", "#NA"),
                   ("=ROWS(TOCOL(SEQUENCE(4,5)))", 20),
                   ("=TOCOL(SEQUENCE(3,7))", "#SIZE"), ("=TOCOL(SEQUENCE(8,8))", "#SIZE"),
                   ("=TOCOL(A1:B2)", column(3, "c", 1, "a")),
                   ("=WRAPROWS({1,2,3,4,5},2)", [[1, 2], [3, 4], [5, "#NA"]]),
                   ("=WRAPROWS({1;2;3;4},2)", [[1, 2], [3, 4]]), ("=WRAPROWS({1,2},2)", [[1, 2]]),
                   ("=WRAPROWS({1,2},1)", column(1, 2)), ("=WRAPROWS({1,2},4)", [[1, 2, "#NA", "#NA"]]),
                   ("=WRAPROWS(5,1)", 5), ("=WRAPROWS(5,2)", [[5, "#NA"]]), ("=WRAPROWS({1,2;3,4},2)", "#VALUE"),
                   ("=WRAPROWS({1,2;3,4},0)", "#VALUE"), ("=WRAPROWS({1,2},0)", "#NUM"),
                   ("=WRAPROWS({1,2},-1)", "#NUM"), ("=WRAPROWS({1,2},0.9)", "#NUM"), ("=WRAPROWS({1,2},)", "#NUM"),
                   ("=COLUMNS(WRAPROWS({1,2},20))", 20), ("=WRAPROWS({1,2},21)", "#SIZE"),
                   (f"=WRAPROWS(1,{GREAT})", "#SIZE"), ("=WRAPROWS(#NA!,#REF!)", "#NA"),
                   ("=WRAPROWS({1,2;3,4},#REF!)", "#REF"), ("=WRAPROWS({1,2},\"x\")", "#VALUE"),
                   ("=WRAPROWS({1,#NA!,3},2)", [[1, "#NA"], [3, "#NA"]]),
                   ("=WRAPROWS({1,2,3},2.9)", [[1, 2], [3, "#NA"]]))
        self.check_unknown("=TOCOL(A1:B2)")
        self.check_unknown("=WRAPROWS(A1:A3,D2)")

    def test_mmult(self):
        self.check(("=MMULT({1,2;3,4},{5,6;7,8})", [[19, 22], [43, 50]]), ("=MMULT({1,2},{3;4})", 11),
                   ("=MMULT({1;2},{3,4})", [[3, 4], [6, 8]]), ("=MMULT(3,4)", 12), ("=MMULT({1,2},{3,4})", "#VALUE"),
                   ("=MMULT({1,2},3)", "#VALUE"), ("=MMULT({1,TRUE},{1;2})", "#VALUE"),
                   ('=MMULT({1,2},{"1";2})', "#VALUE"),
                   ("=MMULT({\"x\",2},{1;#NA!})", "#NA"), ("=MMULT({\"x\",#REF!},{#NA!;1})", "#REF"),
                   ("=MMULT({1,#REF!},{#NA!,1})", "#VALUE"), ("=MMULT(#NA!,#REF!)", "#NA"),
                   ("=MMULT({1,2},#REF!)", "#REF"), ("=MMULT(,1)", "#VALUE"),
                   (f"=MMULT({{{GREAT};1}},{{2,1}})", [["#NUM", ("number", 999999999999999 * SCALE)], [2, 1]]),
                   (f"=MMULT({{{GREAT},{GREAT},-{GREAT}}},{{1;1;1}})", "#NUM"),
                   (f"=MMULT({{{GREAT},-{GREAT},{GREAT}}},{{1;1;1}})", ("number", 999999999999999 * SCALE)),
                   ("=MMULT(SEQUENCE(9),SEQUENCE(1,8))", "#SIZE"), ("=MMULT(SEQUENCE(20),SEQUENCE(1,4))", "#SIZE"),
                   ("=ROWS(MMULT(SEQUENCE(8),SEQUENCE(1,8)))", 8),
                   ("=MMULT(VSTACK(SEQUENCE(8),\"x\"),SEQUENCE(1,8))", "#VALUE"),
                   ("=MMULT(A1:A2,E1:F1)", [[3, -3], [1, -1]]), ("=MMULT({0.001,1},{0.0005;2})", 2),
                   ("=MMULT(J9,1)", "#VALUE"))
        self.check(("=MMULT(A1:A2,D2:E2)", "#VALUE"), ("=MMULT(A1,D1)", "#DIV"), cells={**CELLS, "E2": "q"})
        self.check_reads(("=MMULT(A1:A2,D1:E1)", "A1 A2 D1 E1"), ("=MMULT(D1,A1)", "D1"))
        self.check_unknown("=MMULT(A1:A2,E1:F1)")

    def test_greatest_amounts(self):
        self.check(("=MMULT(A1:B1,{1;-1})", "#NUM"), ("=SEQUENCE(2,1,A1)", column(("number", TOP), "#NUM")),
            ("=SEQUENCE(1,1,A1)", ("number", TOP)), ("=SEQUENCE(2,1,B1)",
            column(("number", -TOP), ("number", SCALE - TOP))), cells={"A1": ("number", TOP), "B1": ("number", -TOP)})


if __name__ == "__main__":
    unittest.main()
