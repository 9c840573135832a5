"""Tests of [53] and [54]: library functions over texts."""

import itertools
import string
import unittest

from tests.helping import FormulaCase, result, text, value

CELLS = {"A1": "abcde", "A2": "", "A3": 12, "A4": "#DIV", "A5": True, "B1": "b", "B2": 2, "C1": "x" * 64, "C2": "y"}
HUGE = "999999999999999"


class Lifted(FormulaCase):
    CELLS = CELLS

    def test_len(self):
        self.check(("=LEN(A1)", 5), ('=LEN("")', 0), ("=LEN(J9)", 0), ("=LEN(12.5)", 4), ("=LEN(TRUE)", 4),
            ("=LEN(#NA!)", "#NA"), ("=LEN(C1)", 64), ('=LEN(" a ")', 3), ('=LEN({"a","bc"})', [[1, 2]]),
            ("=LEN(-0.5)", 4))

    def test_left_and_right(self):
        self.check(("=LEFT(A1)", "a"), ("=RIGHT(A1)", "e"), ("=LEFT(A1,2)", "ab"), ("=RIGHT(A1,2)", "de"),
                   ("=LEFT(A1,0)", ""), ("=RIGHT(A1,0)", ""), ("=LEFT(A1,9)", "abcde"), ("=RIGHT(A1,9)", "abcde"),
                   ("=RIGHT(A1,5)", "abcde"),
                   ("=LEFT(A1,4)", "abcd"), ("=RIGHT(A1,4)", "bcde"), ("=LEFT(A1,-1)", "#VALUE"),
                   ("=RIGHT(A1,-0.1)", "#VALUE"), ("=LEFT(A1,2.9)", "ab"), ("=RIGHT(A1,0.9)", ""), ("=LEFT(A1,)", ""),
                   ("=RIGHT(A1,)", ""), ("=LEFT(A2)", ""), ("=RIGHT(J9)", ""),
                   (f"=LEFT(A1,{HUGE})", "abcde"), (f"=RIGHT(A1,{HUGE})", "abcde"), ("=LEFT(A3,1)", "1"),
                   ("=RIGHT(A3,1)", "2"), ("=LEFT(A4,-1)", "#DIV"), ('=LEFT(A1,"x")', "#VALUE"),
                   ("=LEFT(A1,TRUE)", "a"), ("=LEFT(A1,{1,2})", [["a", "ab"]]),
                   ('=LEFT({"ab";"cd"},{1,2})', [["a", "ab"], ["c", "cd"]]), ("=RIGHT(A1,#NA!)", "#NA"))

    def test_mid(self):
        self.check(("=MID(A1,2,3)", "bcd"), ("=MID(A1,1,1)", "a"), ("=MID(A1,5,9)", "e"), ("=MID(A1,6,1)", ""),
                   ("=MID(A1,99,1)", ""), ("=MID(A1,2,0)", ""), ("=MID(A1,0,1)", "#VALUE"),
                   ("=MID(A1,1,-1)", "#VALUE"),
                   ("=MID(A1,1.9,2.9)", "ab"),
                   ("=MID(A1,,1)", "#VALUE"), ("=MID(A1,1,)", ""), (f"=MID(A1,{HUGE},{HUGE})", ""),
                   (f"=MID(A1,3,{HUGE})", "cde"), ("=MID(J9,1,1)", ""), ("=MID(A1,0.9,1)", "#VALUE"),
                   ("=MID(A1,1,-0.5)", "#VALUE"), ("=MID(A1,1,5)", "abcde"), ("=MID(A4,0,1)", "#DIV"))

    def test_find(self):
        self.check(('=FIND("c",A1)', 3), ('=FIND("C",A1)', "#VALUE"), ('=FIND("z",A1)', "#VALUE"),
                   ('=FIND("a",A1)', 1), ('=FIND("a",A1,2)', "#VALUE"), ('=FIND("a","abca",2)', 4),
                   ('=FIND("a","abca",4)', 4), ('=FIND("a","abca",5)', "#VALUE"),
                   ('=FIND("",A1)', 1), ('=FIND("",A1,3)', 3), ('=FIND("",A1,5)', 5), ('=FIND("",A1,6)', 6),
                   ('=FIND("",A1,7)', "#VALUE"), ('=FIND("","")', 1), ('=FIND("","",2)', "#VALUE"),
                   ('=FIND("a",A1,0)', "#VALUE"), ('=FIND("a",A1,)', "#VALUE"),
                   ('=FIND("",A1,0)', "#VALUE"), ('=FIND("a",A1,1.9)', 1), ('=FIND("de",A1)', 4),
                   ('=FIND("def",A1)', "#VALUE"), (f'=FIND("a",A1,{HUGE})', "#VALUE"),
                   (f'=FIND("",A1,{HUGE})', "#VALUE"), ("=FIND(2,A3)", 2), ("=FIND(J9,A1)", 1),
                   ('=FIND("aa","aaa",2)', 2),
                   ("=FIND(A4,#NA!)", "#DIV"), ('=FIND({"a","c"},A1)', [[1, 3]]))

    def test_substitute(self):
        self.check(('=SUBSTITUTE("abab","a","x")', "xbxb"), ('=SUBSTITUTE("abab","a","x",1)', "xbab"),
                   ('=SUBSTITUTE("abab","a","x",2)', "abxb"), ('=SUBSTITUTE("abab","a","x",3)', "abab"),
                   ('=SUBSTITUTE("aaa","aa","b")', "ba"),
                   ('=SUBSTITUTE("aaaa","aa","b",2)', "aab"), ('=SUBSTITUTE("aaa","aa","b",2)', "aaa"),
                   ('=SUBSTITUTE("abc","","x")', "abc"), ('=SUBSTITUTE("abc","","x",1)', "abc"),
                   ('=SUBSTITUTE("abc","b","")', "ac"), ('=SUBSTITUTE("abc","B","x")', "abc"),
                   ('=SUBSTITUTE("abc","b","x",0)', "#VALUE"), ('=SUBSTITUTE("abc","b","x",)', "#VALUE"),
                   ('=SUBSTITUTE("abc","","x",0)', "#VALUE"), ('=SUBSTITUTE("abc","b","x",-1)', "#VALUE"),
                   ('=SUBSTITUTE("abc","b","x",1.9)', "axc"),
                   (f'=SUBSTITUTE("abc","b","x",{HUGE})', "abc"), ("=SUBSTITUTE(C1,\"x\",\"yy\")", "#VALUE"),
                   ('=SUBSTITUTE(C1,"x","yy",1)', "#VALUE"), ('=SUBSTITUTE(C1,"x","y",64)', "x" * 63 + "y"),
                   ('=SUBSTITUTE(C1,"x","y",65)', "x" * 64),
                   ('=SUBSTITUTE(C1,"xx","yy")', "y" * 64), ("=SUBSTITUTE(121,1,3)", "323"),
                   ('=SUBSTITUTE("","a","b")', ""), ('=SUBSTITUTE("a","a","a")', "a"),
                   ('=SUBSTITUTE("aXbXcX","X","")', "abc"), ('=SUBSTITUTE("aXbXcX","X","-",3)', "aXbXc-"))

    def test_replace(self):
        self.check(("=REPLACE(A1,2,3,\"X\")", "aXe"), ('=REPLACE(A1,1,0,"X")', "Xabcde"),
                   ('=REPLACE(A1,6,1,"X")', "abcdeX"), ('=REPLACE(A1,99,9,"X")', "abcdeX"),
                   ('=REPLACE(A1,5,1,"X")', "abcdX"), ('=REPLACE(A1,1,99,"X")', "X"),
                   ('=REPLACE(A1,0,1,"X")', "#VALUE"),
                   ('=REPLACE(A1,1,-1,"X")', "#VALUE"), ('=REPLACE(A1,2,2,)', "ade"),
                   ('=REPLACE(A1,,1,"X")', "#VALUE"), ('=REPLACE(A1,2,,"X")', "aXbcde"),
                   ('=REPLACE(C1,1,0,"X")', "#VALUE"), ('=REPLACE(C1,64,1,"X")', "x" * 63 + "X"),
                   ('=REPLACE(C1,65,1,"X")', "#VALUE"),
                   (f'=REPLACE(A1,{HUGE},{HUGE},"X")', "abcdeX"), ('=REPLACE(A1,2.9,1.9,"X")', "aXcde"),
                   ("=REPLACE(1234,2,2,9)", "194"))

    def test_rept(self):
        self.check(('=REPT("ab",3)', "ababab"), ('=REPT("ab",0)', ""), ('=REPT("ab",-1)', "#VALUE"),
                   ('=REPT("a",64)', "a" * 64), ('=REPT("a",65)', "#VALUE"), ('=REPT("ab",32)', "ab" * 32),
                   ('=REPT("ab",33)', "#VALUE"), (f'=REPT("a",{HUGE})', "#VALUE"),
                   (f'=REPT("",{HUGE})', ""), ('=REPT("",-1)', "#VALUE"), ('=REPT("a",)', ""),
                   ('=REPT("a",2.9)', "aa"), ("=REPT(C1,1)", "x" * 64), ("=REPT(C1,2)", "#VALUE"),
                   ("=REPT(1,3)", "111"), ('=REPT("a",-0.1)', "#VALUE"), ("=REPT(J9,5)", ""))

    def test_letters(self):
        signs = "".join([chr(code) for code in range(32, 127) if chr(code) not in '%"'])
        for part in (signs[:60], signs[60:]):
            self.assertEqual(result(f'=UPPER("{part}")'), text(part.upper()))
            self.assertEqual(result(f'=LOWER("{part}")'), text(part.lower()))
        self.check(("=UPPER(TRUE)", "TRUE"), ("=LOWER(TRUE)", "true"), ("=UPPER(J9)", ""), ("=LOWER(1.5)", "1.5"),
            ("=UPPER(#NA!)", "#NA"), ('=LOWER({"A","b"})', [["a", "b"]]))
        self.assertEqual(result(f'=LOWER("{string.ascii_uppercase}")'), text(string.ascii_lowercase))

    def test_trim(self):
        self.check(('=TRIM("  a  b c ")', "a b c"), ('=TRIM("abc")', "abc"), ('=TRIM("   ")', ""), ('=TRIM("")', ""),
            ('=TRIM(" a")', "a"), ('=TRIM("a    b")', "a b"), ("=TRIM(12)", "12"), ("=TRIM(J9)", ""))

    def test_exact_value_code(self):
        self.check(('=EXACT("a","a")', True), ('=EXACT("a","A")', False), ('=EXACT("1",1)', True),
                   ('=EXACT("",J9)', True), ('=EXACT("TRUE",TRUE)', True), ('=EXACT("a","a ")', False),
                   ("=EXACT(#NA!,#REF!)", "#NA"), ('=EXACT({"a","b"},"a")', [[True, False]]),
                   ('=VALUE("12")', 12), ('=VALUE(" -1.5 ")', value((("number", -1500000)))),
                   ('=VALUE("x")', "#VALUE"), ('=VALUE("")', "#VALUE"), ("=VALUE(J9)", 0), ("=VALUE(TRUE)", 1),
                   ("=VALUE(3)", 3), ("=VALUE(#REF!)", "#REF"), ('=VALUE({"1","x"})', [[1, "#VALUE"]]),
                   ('=CODE("A")', 65), ('=CODE("abc")', 97), ('=CODE("")', "#VALUE"), ("=CODE(J9)", "#VALUE"),
                   ('=CODE(" ")', 32), ('=CODE("~")', 126), ("=CODE(1)", 49), ("=CODE(FALSE)", 70), ("=CODE(-1)", 45))

    def test_which_goes_first(self):
        self.check(('=LEFT(#REF!,#NA!)', "#REF"), ('=MID("a","x",#NA!)', "#NA"), ('=MID("a","x",-1)', "#VALUE"),
            ('=MID("a",-999999999999999.5,"x")', "#NUM"), ('=FIND("a","b","x")', "#VALUE"))
        for word, many in (("LEN", 1), ("LEFT", 2), ("RIGHT", 2), ("MID", 3), ("FIND", 3), ("SUBSTITUTE", 4),
            ("REPLACE", 4), ("REPT", 2), ("EXACT", 2), ("CODE", 1), ("TRIM", 1), ("UPPER", 1), ("LOWER", 1),
            ("VALUE", 1)):
            self.check_unknown(f"={word}({','.join(['A1', 'B1', 'B2', 'C2'][:many])})")
            self.check((f"={word}({','.join(['LAMBDA(1)'] + ['1'] * (many - 1))})", "#CALC"))


class Joined(FormulaCase):
    CELLS = CELLS

    def test_concat(self):
        self.check(("=CONCAT(1,\"a\",TRUE,)", "1aTRUE"), ("=CONCAT(A1:B3)", "abcdeb212"),
                   ("=CONCAT({1,2;\"x\",FALSE})", "12xFALSE"), ("=CONCAT(J9)", ""), ("=CONCAT(#NA!,#REF!)", "#NA"),
                   ("=CONCAT(C1)", "x" * 64), ("=CONCAT(C1:C2)", "#VALUE"),
                   ("=CONCAT(C1,C2,#NA!)", "#NA"), ("=CONCAT(C1,\"\")", "x" * 64), ("=CONCAT(LAMBDA(1))", "#CALC"),
                   ("=CONCAT({1,#NA!},#REF!)", "#NA"), ("=CONCAT(1.50)", "1.5"))
        self.check_reads(("=CONCAT(C1:C2,A1)", "C1 C2 A1"), ("=CONCAT(A3:A5,B1)", "A3 A4"),
            ("=CONCAT(A1:B2)", "A1 B1 A2 B2"))
        self.check_unknown("=CONCAT(C1:C2,A1)")

    def test_textjoin(self):
        self.check(('=TEXTJOIN(",",TRUE,A1:A3)', "abcde,12"), ('=TEXTJOIN(",",FALSE,A1:A3)', "abcde,,12"),
                   ('=TEXTJOIN("",0,1,2)', "12"), ('=TEXTJOIN(", ",1,{1,2;3,4})', "1, 2, 3, 4"),
                   ('=TEXTJOIN(",",1,"",J9,)', ""), ('=TEXTJOIN(",",0,"",J9,)', ",,"),
                   ('=TEXTJOIN(#NA!,#REF!,1)', "#NA"), ('=TEXTJOIN(",",#REF!,#DIV!)', "#REF"),
                   ('=TEXTJOIN(",","x",1)', "#VALUE"), ('=TEXTJOIN({1,2},1,1)', "#VALUE"),
                   ('=TEXTJOIN(",",{1,0},1)', "#VALUE"), ("=TEXTJOIN(,1,1,2)", "12"), ("=TEXTJOIN(5,,1,2)", "152"),
                   ('=TEXTJOIN(",",1,C1)', "x" * 64), ('=TEXTJOIN(",",1,C1,C2)', "#VALUE"),
                   ('=TEXTJOIN(",",1,C1,"")', "x" * 64), ('=TEXTJOIN(",",0,C1,"")', "#VALUE"),
                   ('=TEXTJOIN(",",1,A4)', "#DIV"), ('=TEXTJOIN(",",1,C1,C2,A4)', "#DIV"),
                   ('=TEXTJOIN(",",1,LAMBDA(1))', "#CALC"),
                   ('=TEXTJOIN(TRUE,1,1,2)', "1TRUE2"), ("=TEXTJOIN(C1,1,1,2)", "#VALUE"), ("=TEXTJOIN(C1,1,1)", "1"))
        self.check_reads(('=TEXTJOIN(B1,B2,A1:A3)', "B1 B2 A1 A2 A3"), ('=TEXTJOIN(A4,B2,A1)', "A4"),
            ('=TEXTJOIN(B1,A1,A2)', "B1 A1"), ('=TEXTJOIN(B1,1,A3:A5)', "B1 A3 A4"))
        self.check_unknown("=TEXTJOIN(B1,B2,A1:A3)")

    def test_textsplit(self):
        self.check(('=TEXTSPLIT("a,b,c",",")', [["a", "b", "c"]]),
                   ('=TEXTSPLIT("a,b;c",",",";")', [["a", "b"], ["c", "#NA"]]), ('=TEXTSPLIT("a",",")', "a"),
                   ('=TEXTSPLIT("",",")', ""), ('=TEXTSPLIT("",",",";")', ""), ('=TEXTSPLIT(",",",")', [["", ""]]),
                   ('=TEXTSPLIT("a;b",",",";")', [["a"], ["b"]]), ('=TEXTSPLIT("aaa","aa")', [["", "a"]]),
                   ('=TEXTSPLIT("a","")', "#VALUE"), ('=TEXTSPLIT("a",)', "#VALUE"),
                   ('=TEXTSPLIT("a",,";")', "#VALUE"), ('=TEXTSPLIT("a",",","")', "#VALUE"),
                   ('=TEXTSPLIT("a,b",",",)', [["a", "b"]]),
                   ('=TEXTSPLIT("a,b",",",J9)', "#VALUE"), ('=TEXTSPLIT("",,)', "#VALUE"),
                   ('=TEXTSPLIT("a","",#NA!)', "#NA"), ('=TEXTSPLIT(#NA!,#REF!)', "#NA"),
                   ('=TEXTSPLIT("a",#REF!,#DIV!)', "#REF"), ('=TEXTSPLIT({1,2},1)', "#VALUE"),
                   ('=TEXTSPLIT(1.5,".")', [["1", "5"]]),
                   ('=TEXTSPLIT("a,b;c,d",";",",")', [["a", "#NA"], ["b", "c"], ["d", "#NA"]]),
                   ('=TEXTSPLIT("aXbx","x")', [["aXb", ""]]), ('=TEXTSPLIT("ab","ab")', [["", ""]]),
                   ("=TEXTSPLIT(121,2)", [["1", "1"]]), ('=LET(e,,TEXTSPLIT("a",",",e))', "#VALUE"))
        for many in (19, 20):
            told = [[""] * (many + 1)]
            self.check((f'=TEXTSPLIT("{"," * many}",",")', told if many == 19 else "#SIZE"),
                (f'=TEXTSPLIT("{"," * many}",";",",")', [[""]] * 20 if many == 19 else "#SIZE"))
        for wide, high in itertools.product((1, 3, 4, 5, 12, 13, 16, 20), repeat=2):
            parts = ";".join(["," * (wide - 1)] + [""] * (high - 1))
            if len(parts) <= 64:
                found = result(f'=TEXTSPLIT("{parts}",",",";")')
                if wide * high > 64:
                    self.assertEqual(found, ("error", "SIZE"))
                elif wide * high > 1:
                    self.assertEqual(found[1:3], (high, wide))
        self.check_reads(("=TEXTSPLIT(A1,B1,C2)", "A1 B1 C2"), ("=TEXTSPLIT(A4,B1)", "A4"))
        self.check_unknown("=TEXTSPLIT(A1,B1,C2)")


if __name__ == "__main__":
    unittest.main()
