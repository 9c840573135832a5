"""Tests of [46]: what each kind of argument takes, in which sequence, and lifted functions."""

import unittest

from sheetworks.library import COUNTS
from tests.helping import SCALE, FormulaCase, cells_read, error, result, steps_of, value

CELLS = {"A1": 1, "A2": 2, "A3": "x", "D1": "#DIV", "E1": "#REF"}

# Each place of an S argument of a function that is not lifted, marked by @.
SCALARS = ["LARGE({1,2},@)", "SMALL({1,2},@)", "RANK(@,1)", "IF(@,1,2)", "IFS(@,1)", "IFS(0,1,@,2)", "SWITCH(@,1,2)",
           "SWITCH(1,@,2)", "SWITCH(1,2,3,@,4)", "CHOOSE(@,1)", "AND(@)", "AND(1,@)", "OR(@)", "OR(0,@)",
           "XOR(@)", "XOR(1,@)", "TEXTJOIN(@,1,1)", "TEXTJOIN(1,@,1)", "TEXTSPLIT(@,1)", "TEXTSPLIT(1,@)",
           "TEXTSPLIT(1,2,@)", "INDEX(1,@)", "INDEX(1,1,@)", "MATCH(@,1)", "MATCH(1,1,@)", "XLOOKUP(@,1,1)",
           "VLOOKUP(@,1,1)",
           "VLOOKUP(1,1,@)", "VLOOKUP(1,1,1,@)", "OFFSET(A1,@,0)", "OFFSET(A1,0,@)", "OFFSET(A1,0,0,@)",
           "OFFSET(A1,0,0,1,@)", "INDIRECT(@)", "SEQUENCE(@)", "SEQUENCE(1,@)", "SEQUENCE(1,1,@)",
           "SEQUENCE(1,1,1,@)",
           "SORT(1,@)", "SORT(1,1,@)", "SORTBY(1,1,@)", "TAKE(1,@)", "TAKE(1,1,@)", "DROP(1,@)", "DROP(1,0,@)",
           "CHOOSEROWS(1,@)", "CHOOSEROWS(1,1,@)", "CHOOSECOLS(1,@)", "EXPAND(1,@,1)", "EXPAND(1,1,@)",
           "WRAPROWS(1,@)",
           "MUNIT(@)", "SCAN(@,1,LAMBDA(x,y,1))", "MAKEARRAY(@,1,LAMBDA(x,y,1))", "MAKEARRAY(1,@,LAMBDA(x,y,1))"]
REFERENCES = ["COUNTBLANK(@)", "COUNTIF(@,1)", "SUMIF(@,1)", "SUMIF(A1,1,@)", "ROW(@)", "COLUMN(@)", "OFFSET(@,0,0)"]
FUNCTIONS = ["MAP(1,@)", "REDUCE(1,1,@)", "SCAN(1,1,@)", "MAKEARRAY(1,1,@)", "BYROW(1,@)", "BYCOL(1,@)"]
# V arguments of which an error scalar is the result at once.
SOUND = ["SUMPRODUCT(@)", "SUMPRODUCT(1,@)", "TRANSPOSE(@)", "SORT(@)", "SORTBY(@,1)", "SORTBY(1,@)", "UNIQUE(@)",
         "FILTER(@,1)", "FILTER(1,@)", "TAKE(@,1)", "DROP(@,0)", "VSTACK(@)", "VSTACK(1,@)", "HSTACK(@,1)",
         "CHOOSEROWS(@,1)",
         "CHOOSECOLS(@,1)", "EXPAND(@,1,1)", "TOCOL(@)", "WRAPROWS(@,1)", "MMULT(@,1)", "MMULT(1,@)"]
FLAT = ["SUM", "PRODUCT", "MIN", "MAX", "AVERAGE", "MEDIAN", "CONCAT"]
LIFTED = ["ABS", "SIGN", "INT", "TRUNC", "ROUND", "MOD", "QUOTIENT", "POWER", "SQRT", "GCD", "LCM", "NOT", "LEN",
    "LEFT", "RIGHT", "MID", "FIND", "SUBSTITUTE", "REPLACE", "REPT", "UPPER", "LOWER", "TRIM", "EXACT", "VALUE",
    "CODE"]


class Arguments(FormulaCase):
    CELLS = CELLS

    def check_each(self, templates, table):
        for template in templates:
            for part, told in table:
                self.check(("=" + template.replace("@", part), told))

    def test_scalars(self):
        self.check_each(SCALARS, [("#NA!", "#NA"), ("D1", "#DIV"), ("1/0", "#DIV"), ("{1,2}", "#VALUE"),
            ("A1:A2", "#VALUE"), ("{#NA!,1}", "#VALUE"), ("A:J", "#SIZE"), ("1:20", "#SIZE"), ("LAMBDA(1)", "#CALC"),
            ("NOWHERE", "#NAME")])
        for template in SCALARS:
            self.check_reads(("=" + template.replace("OFFSET(A1", "OFFSET(J1").replace("@", "A1:A2"), "A1 A2"))
            ahead = template.index("@")
            # Nothing behind it is evaluated.
            later = template[:ahead] + "D1" + template[ahead + 1:].replace(",1", ",A3").replace(",2", ",A3")
            self.check_reads(("=" + later.replace("OFFSET(A1", "OFFSET(J1"), "D1"))

    def test_references(self):
        self.check_each(REFERENCES, [("#NA!", "#NA"), ("1", "#VALUE"), ("{1,2}", "#VALUE"), ("LAMBDA(1)", "#CALC"),
            ("A1+0", "#VALUE"), ("IF(1,)", "#VALUE"), ("1/0", "#DIV"), ("NOWHERE", "#NAME"), ('"A1"', "#VALUE")])
        self.check_reads(("=COUNTIF(1,D1)", ""), ("=OFFSET(1,A1,A2)", ""), ("=SUMIF(1,A1,A2)", ""), ("=ROW(D1)", ""),
            ("=COLUMN(A1:J20)", ""))

    def test_functions(self):
        self.check_each(FUNCTIONS, [("#NA!", "#NA"), ("1", "#VALUE"), ("{1,2}", "#VALUE"), ("A1", "#VALUE"),
            ("D1", "#VALUE"), ("", "#VALUE"), ("1/0", "#DIV"), ("NOWHERE", "#NAME"), ("A1:A2", "#VALUE"),
            ("TRUE", "#VALUE"), ("SUM", "#NAME")])
        for template in FUNCTIONS:
            self.check_reads(("=" + template.replace("@", "D1"), ""))

    def test_values(self):
        self.check_each(SOUND, [("#NA!", "#NA"), ("D1", "#DIV"), ("A:J", "#SIZE"), ("LAMBDA(1)", "#CALC"),
            ("NOWHERE", "#NAME")])
        for template in SOUND:
            self.check_reads(("=" + template.replace("@", "D1").replace(",1", ",A1"), "D1"))

    def test_flat(self):
        for word in FLAT:
            self.check((f"={word}(#NA!)", "#NA"), (f"={word}(D1)", "#DIV"), (f"={word}(1,E1,D1)", "#REF"),
                (f"={word}({{1,#NA!}},D1)", "#NA"), (f"={word}(LAMBDA(1))", "#CALC"), (f"={word}(NOWHERE)", "#NAME"))
            self.check_reads((f"={word}(A1:A2,A1,D1:E1,A3)", "A1 A2 D1"))

    def test_every_function_is_there(self):
        for word, (least, greatest) in COUNTS.items():
            for many in (least, greatest):
                found = result(f"={word}({','.join(['A1'] * many)})", CELLS)
                self.assertIn(found[0], ("number", "text", "truth", "error", "array"), word)

    def test_missing_and_left_out(self):
        self.check(('=LEFT("abc")', "a"), ('=LEFT("abc",)', ""), ("=SEQUENCE(2)", [[1], [2]]),
                   ("=SEQUENCE(2,,)", "#VALUE"), ("=TAKE({1,2},1)", [[1, 2]]), ("=TAKE({1,2},1,)", [[1, 2]]),
                   ("=DROP({1,2},0,)", [[1, 2]]), ('=TEXTSPLIT("a;b",";",)', [["a", "b"]]),
                   ("=IF(FALSE,1)", False), ("=IF(FALSE,1,)", 0), ("=MATCH(2,{1,2,3})", 2),
                   ("=SUMIF(A1:A2,1,)", "#VALUE"), ("=XLOOKUP(9,1,1,)", 0), ("=FILTER(1,0,)", 0),
                   ("=EXPAND(1,1,2,)", [[1, 0]]))
        self.assertEqual(steps_of("=TAKE({1,2},1,)", CELLS), steps_of("=TAKE({1,2},1)", CELLS) + 1)
        self.assertEqual(steps_of("=DROP({1,2},0,)", CELLS), steps_of("=DROP({1,2},0)", CELLS) + 1)
        self.assertEqual(steps_of('=TEXTSPLIT("a",";",)', CELLS), steps_of('=TEXTSPLIT("a",";")', CELLS) + 1)

    def test_checks_behind_all_arguments(self):
        for formula in ("=INDEX({1,2},9,#NA!)", "=VLOOKUP(1,1,0,#NA!)", "=OFFSET(A1,99,#NA!)", "=SORT({1;2},9,#NA!)",
                        "=CHOOSEROWS({1,2},9,#NA!)", "=SEQUENCE(0,#NA!)", "=TEXTSPLIT(1,\"\",#NA!)",
                        "=MATCH(1,{1,2;3,4},#NA!)",
                        "=SORTBY({1;2},{1,2},#NA!)",
                        "=MAKEARRAY(0,1,#NA!)", "=SUMIF(A1:A2,1,#NA!)", "=SUMPRODUCT({1,2},{1;2},#NA!)",
                        "=MMULT({1,2},#NA!)", "=TAKE({1,2},0,#NA!)", "=FILTER({1,2;3,4},#NA!)"):
            self.assertEqual(result(formula, CELLS), error("NA"), formula)


class Lifted(FormulaCase):
    CELLS = CELLS

    def test_shapes(self):
        self.check(("=MOD({5,6,7},{2;4})", [[1, 0, 1], [1, 2, 3]]), ("=MOD({5,6,7},{2,4})", [[1, 2, "#NA"]]),
                   ("=MOD({5,6;7,8},{2,4,3})", [[1, 2, "#NA"], [1, 0, "#NA"]]),
                   ("=MOD({5;6;7},{2;4})", [[1], [2], ["#NA"]]),
                   ("=MID(\"abcd\",{1,2,3},{1;2})", [["a", "b", "c"], ["ab", "bc", "cd"]]),
                   ("=MID({\"ab\";\"cd\"},1,{1,2})", [["a", "ab"], ["c", "cd"]]),
                   ("=LEFT({\"ab\",\"cd\"})", [["a", "c"]]), ("=LEFT({\"ab\",\"cd\"},)", [["", ""]]),
                   ("=MOD(A1:A13,A1:E1)", "#SIZE"), ("=MID(SEQUENCE(13),1,SEQUENCE(1,5))", "#SIZE"),
                   ("=ROWS(MOD(SEQUENCE(16),SEQUENCE(1,4)))", 16),
                   ("=MOD({1,2;3,4;5,6},{1,2,3})", [[0, 0, "#NA"], [0, 0, "#NA"], [0, 0, "#NA"]]),
                   ("=MID({\"a\",\"b\",\"c\"},{1,1},1)", [["a", "b", "#NA"]]),
                   ("=REPLACE({\"ab\"},{1,2},1,{\"x\";\"y\"})", [["xb", "ax"], ["yb", "ay"]]))

    def test_errors(self):
        self.check(("=MOD({#NA!,1},{1,#REF!})", [["#NA", "#REF"]]), ("=MOD({#NA!,1},\"x\")", [["#NA", "#VALUE"]]),
            ("=MID(#DIV!,#REF!,#NA!)", "#DIV"), ("=MID(1,#REF!,#NA!)", "#REF"),
            ("=MID({1,#NA!,3},{1,1},1)", [["1", "#NA", "#NA"]]), ("=MOD(\"x\",#NA!)", "#NA"),
            ("=MOD(\"x\",\"y\")", "#VALUE"))
        for word in LIFTED:
            least, greatest = COUNTS[word]
            for many in range(least, greatest + 1):
                for at in range(many):
                    for part, told in (("#NA!", "#NA"), ("LAMBDA(1)", "#CALC"), ("A:J", "#SIZE"), ("D1", "#DIV")):
                        # What does not convert stands in the other places: errors go ahead of that.
                        parts = ["\"\""] * many
                        parts[at] = part
                        self.check((f"={word}({','.join(parts)})", told))
                        if at + 1 < many:
                            parts[-1] = "#REF!"
                            self.check((f"={word}({','.join(parts)})", told))

    def test_all_arguments_are_taken(self):
        for word in LIFTED:
            many = COUNTS[word][1]
            parts = ["D1", "E1", "A1", "A2"][:many]
            self.assertEqual(cells_read(f"={word}({','.join(parts)})", CELLS), " ".join(parts))
            self.check_unknown(f"={word}({','.join(parts)})")

    def test_members(self):
        for word in LIFTED:
            many = COUNTS[word][1]
            whole = result(f"={word}({','.join(['SEQUENCE(2,3)'] * many)})", CELLS)
            self.assertEqual(whole[:3], ("array", 2, 3))
            for at in range(6):
                one = result(f"={word}({','.join([str(at + 1)] * many)})", CELLS)
                self.assertEqual(whole[3][at], one)
            found = result(f"={word}({','.join(['SEQUENCE(16,4)'] * many)})", CELLS)
            self.assertEqual(found[:3], ("array", 16, 4))
        self.assertEqual(value(1), ("number", SCALE))


if __name__ == "__main__":
    unittest.main()
