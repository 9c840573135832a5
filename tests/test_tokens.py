"""Tests of [14]: the tokens of a formula's text."""

import itertools
import re
import unittest

from sheetworks.errors import Fault
from sheetworks.numbers import read_amount
from sheetworks.tokens import tokens

ROW = "(?:1[0-9]|20|[1-9])(?![0-9])"
# The patterns of [14], one behind the other, over the capital form.
PATTERNS = [
    ("text", '"(?:[^"]|"")*"(?!")'),
    ("error", "#(?:DIV|VALUE|REF|NAME|NUM|NA|CALC|SIZE|LIMIT)!"),
    ("rows", rf"\$?{ROW}:\$?{ROW}"),
    ("number", r"[0-9]+(?:\.[0-9]+)?"),
    ("cell", rf"\$?[A-J]\$?{ROW}(?![A-Z0-9_(])"),
    ("columns", r"\$?[A-J]:\$?[A-J](?![A-Z0-9_($])"),
    ("word", r"[A-Z][A-Z0-9_.]*"),
    ("sign", r"<>|<=|>=|[-+*/^&=<>(){},;:!]"),
]


def told(text):
    """What the patterns tell: the tokens, or the place of the first fault."""
    upper = "".join([sign.upper() if "a" <= sign <= "z" else sign for sign in text])
    found = []
    at = 1
    while True:
        while text[at:at + 1] == " ":
            at += 1
        if at == len(text):
            return tuple(found)
        fits = [(kind, re.compile(pattern).match(upper, at)) for kind, pattern in PATTERNS]
        fits = [(kind, match.end()) for kind, match in fits if match]
        if not fits:
            return len(text) if text[at] == '"' else at
        kind, end = fits[0]
        what = upper[at:end]
        if kind == "text":
            what = text[at + 1:end - 1].replace('""', '"')
        if (kind == "text" and len(what) > 64 or kind == "word" and len(what) > 12
                or kind == "number" and read_amount(what) is None):
            return at
        found.append((kind, at, end, what))
        at = end


def fault(text):
    """The place of the fault of a text, or None."""
    try:
        tokens(text)
    except Fault as e:
        return e.at
    return None


def pairs(text):
    """Kind and what of each token."""
    return [(kind, what) for kind, at, end, what in tokens(text)]


def alone(formula, kind):
    """Whether what stands behind the = is one token of this kind, as it stands."""
    return tokens(formula) == ((kind, 1, len(formula), formula[1:].upper()),)


class Whole(unittest.TestCase):
    def test_nothing_behind(self):
        self.assertEqual(tokens("="), ())
        self.assertEqual(tokens("=   "), ())

    def test_tuple_of_tuples(self):
        found = tokens("=1+A1")
        self.assertIs(found.__class__, tuple)
        self.assertEqual([token.__class__ for token in found], [tuple] * 3)
        self.assertEqual({(at.__class__, end.__class__) for _, at, end, _ in found}, {(int, int)})

    def test_by_name(self):
        self.assertEqual(tokens(text="=7"), (("number", 1, 2, "7"),))

    def test_equal_calls(self):
        self.assertEqual(tokens("=a1 + b"), tokens("=a1 + b"))

    def test_places_of_each_kind(self):
        self.assertEqual(tokens('=  "a""b" #na! $1:2 3.50 a$1 b:$c sum_x <>  '), (
            ("text", 3, 9, 'a"b'), ("error", 10, 14, "#NA!"), ("rows", 15, 19, "$1:2"),
            ("number", 20, 24, "3.50"), ("cell", 25, 28, "A$1"), ("columns", 29, 33, "B:$C"),
            ("word", 34, 39, "SUM_X"), ("sign", 40, 42, "<>")))

    def test_no_blanks_between(self):
        self.assertEqual(tokens('=-SUM(A1,"b")'), (
            ("sign", 1, 2, "-"), ("word", 2, 5, "SUM"), ("sign", 5, 6, "("), ("cell", 6, 8, "A1"),
            ("sign", 8, 9, ","), ("text", 9, 12, "b"), ("sign", 12, 13, ")")))

    def test_blanks(self):
        self.assertEqual(tokens("=   1"), (("number", 4, 5, "1"),))
        self.assertEqual(tokens("=1   "), (("number", 1, 2, "1"),))
        self.assertEqual(tokens("=1  2"), (("number", 1, 2, "1"), ("number", 4, 5, "2")))
        self.assertEqual(pairs("=A 1"), [("word", "A"), ("number", "1")])
        self.assertEqual(pairs("=< >"), [("sign", "<"), ("sign", ">")])
        self.assertEqual(pairs("=1  +5"), [("number", "1"), ("sign", "+"), ("number", "5")])

    def test_only_the_blank_is_one(self):
        # Nothing but the blank may stand between tokens; a text may hold any sign.
        for sign in "_.'?":
            self.assertEqual(fault(f"=1 {sign} 2"), 3)

    def test_first_fault_counts(self):
        self.assertEqual(fault('=? "a'), 1)
        self.assertEqual(fault('="a" ? "b'), 5)
        self.assertEqual(fault('="a" "b ?'), 9)
        self.assertEqual(fault("=1 ? ABCDEFGHIJKLM"), 3)
        self.assertEqual(fault("=ABCDEFGHIJKLM ?"), 1)
        self.assertEqual(fault("=#X! 1234567890123456"), 1)
        self.assertEqual(fault("= 1234567890123456 #X!"), 2)
        self.assertEqual(fault('="' + 65 * "a" + '" "'), 1)

    def test_many_tokens(self):
        found = tokens("=1" + 3000 * "+1")
        self.assertEqual(len(found), 6001)
        self.assertEqual(found[-1], ("number", 6001, 6002, "1"))

    def test_tokens_do_not_need_to_make_sense(self):
        self.assertEqual(pairs("=)(,,"), [("sign", sign) for sign in ")(,,"])


class Texts(unittest.TestCase):
    def check(self, written, what):
        text = "=" + written
        self.assertEqual(tokens(text), (("text", 1, len(text), what),))

    def test_ordinary(self):
        self.check('""', "")
        self.check('"a"', "a")
        self.check('"aBc dE"', "aBc dE")
        self.check('" "', " ")
        self.check('"1+1=2, #DIV! ?"', "1+1=2, #DIV! ?")

    def test_quotes_twice(self):
        self.check('"""a"', '"a')
        self.check('"a"""', 'a"')
        self.check('"a""b"', 'a"b')
        self.check('""""', '"')
        self.check('""""""', '""')
        self.check('"a""""b"', 'a""b')

    def test_side_by_side(self):
        self.assertEqual(tokens('="a" "b"'), (("text", 1, 4, "a"), ("text", 5, 8, "b")))
        self.assertEqual(pairs('="a"&"b"'), [("text", "a"), ("sign", "&"), ("text", "b")])

    def test_not_closed(self):
        for text in ('="', '="a', '="a  ', '="""', '="a""', '="""a""', '="""""', '="a" "', '=1+"a+1'):
            self.assertEqual(fault(text), len(text))

    def test_sixty_four_signs(self):
        self.check('"' + 64 * "x" + '"', 64 * "x")
        self.check('"' + 64 * '""' + '"', 64 * '"')
        self.check('"' + 63 * "x" + '"""', 63 * "x" + '"')
        self.check('"' + 64 * " " + '"', 64 * " ")

    def test_more_signs(self):
        self.assertEqual(fault('="' + 65 * "x" + '"'), 1)
        self.assertEqual(fault('=1 & "' + 65 * "x" + '"'), 5)
        self.assertEqual(fault('="' + 65 * '""' + '"'), 1)
        self.assertEqual(fault('="' + 64 * "x" + '"""'), 1)

    def test_more_signs_not_closed(self):
        text = '="' + 65 * "x"
        self.assertEqual(fault(text), len(text))
        self.assertEqual(fault(text + '""'), len(text) + 2)


class Errors(unittest.TestCase):
    WORDS = "DIV VALUE REF NAME NUM NA CALC SIZE LIMIT".split()

    def test_words(self):
        for word in self.WORDS:
            for text in (f"=#{word}!", f"=#{word.lower()}!", f"=#{word.capitalize()}!"):
                self.assertEqual(tokens(text), (("error", 1, len(text), f"#{word}!"),))

    def test_circ(self):
        self.assertEqual(fault("=#CIRC!"), 1)
        self.assertEqual(fault("=1+#circ!"), 3)

    def test_no_errors(self):
        for text in ("=#", "=#!", "=#X!", "=#DIV", "=#DIV+1", "=# DIV!", "=#DIV !", "=#D IV!",
                     "=##DIV!", "=#DIVX!", "=#DI!", "=#NAM!", "=#DIV0!", "=#NA?", "=#DIVx", "=#$A1!"):
            self.assertEqual(fault(text), 1, text)
        self.assertEqual(fault("= 1 #"), 4)

    def test_what_stands_behind(self):
        self.assertEqual(pairs("=#NA!#NAME!"), [("error", "#NA!"), ("error", "#NAME!")])
        self.assertEqual(pairs("=#REF!!A1"), [("error", "#REF!"), ("sign", "!"), ("cell", "A1")])
        self.assertEqual(pairs("=#REF!A1"), [("error", "#REF!"), ("cell", "A1")])
        self.assertEqual(fault("=#DIV!#"), 6)


class Rows(unittest.TestCase):
    def test_ordinary(self):
        for a, b in itertools.product(range(1, 21), repeat=2):
            self.assertTrue(alone(f"={a}:{b}", "rows"))

    def test_marks(self):
        for text in ("=$1:2", "=1:$2", "=$1:$2", "=$20:$20"):
            self.assertTrue(alone(text, "rows"), text)

    def test_marks_elsewhere(self):
        self.assertEqual(fault("=1$:2"), 2)
        self.assertEqual(fault("=1:2$"), 4)
        self.assertEqual(fault("=$$1:2"), 1)
        self.assertEqual(fault("=1:$$2"), 3)
        self.assertEqual(fault("=$1"), 1)
        self.assertEqual(fault("=$1:"), 1)
        self.assertEqual(fault("=1:$"), 3)

    def test_no_rows(self):
        for a, b in [("0", "1"), ("1", "0"), ("21", "1"), ("1", "21"), ("01", "2"), ("1", "02"),
                     ("00", "1"), ("20", "020"), ("200", "1"), ("1", "200"), ("100", "100")]:
            self.assertEqual(pairs(f"={a}:{b}"), [("number", a), ("sign", ":"), ("number", b)])
        self.assertEqual(fault("=$0:1"), 1)
        self.assertEqual(fault("=$21:1"), 1)
        self.assertEqual(fault("=1:$0"), 3)
        self.assertEqual(fault("=1:$21"), 3)
        self.assertEqual(fault("=$01:2"), 1)

    def test_figures_right_behind(self):
        self.assertTrue(alone("=1:20", "rows"))
        self.assertEqual(pairs("=1:201"), [("number", "1"), ("sign", ":"), ("number", "201")])
        self.assertEqual(pairs("=1:1" + 13 * "0")[2], ("number", "1" + 13 * "0"))
        self.assertEqual(fault("=1:" + 5000 * "9"), 3)

    def test_other_signs_right_behind(self):
        self.assertEqual(pairs("=1:2A"), [("rows", "1:2"), ("word", "A")])
        self.assertEqual(pairs("=1:2A1"), [("rows", "1:2"), ("cell", "A1")])
        self.assertEqual(pairs("=1:2("), [("rows", "1:2"), ("sign", "(")])
        self.assertEqual(pairs("=1:2:3"), [("rows", "1:2"), ("sign", ":"), ("number", "3")])
        self.assertEqual(pairs("=1:2:3:4"), [("rows", "1:2"), ("sign", ":"), ("rows", "3:4")])
        self.assertEqual(fault("=1:2.5"), 4)
        self.assertEqual(fault("=1:2_"), 4)

    def test_blanks_beside_the_colon(self):
        for text in ("=1 :2", "=1: 2", "=1 : 2"):
            self.assertEqual(pairs(text), [("number", "1"), ("sign", ":"), ("number", "2")])
        self.assertEqual(fault("=$1 :2"), 1)
        self.assertEqual(fault("=1: $2"), 4)

    def test_one_row(self):
        self.assertEqual(pairs("=1"), [("number", "1")])
        self.assertEqual(pairs("=1:"), [("number", "1"), ("sign", ":")])
        self.assertEqual(pairs("=:1"), [("sign", ":"), ("number", "1")])
        self.assertEqual(pairs("=1:A"), [("number", "1"), ("sign", ":"), ("word", "A")])
        self.assertEqual(pairs("=1::2"), [("number", "1"), ("sign", ":"), ("sign", ":"), ("number", "2")])

    def test_point_ahead(self):
        self.assertEqual(pairs("=1.1:2"), [("number", "1.1"), ("sign", ":"), ("number", "2")])


class Numbers(unittest.TestCase):
    def test_ordinary(self):
        for what in ("0", "7", "12", "007", "1.5", "1.50", "0.000", "00.10", "21", "1000"):
            self.assertEqual(tokens("=" + what), (("number", 1, 1 + len(what), what),))

    def test_figures_ahead(self):
        self.assertTrue(alone("=" + 15 * "9", "number"))
        self.assertTrue(alone("=" + 15 * "0", "number"))
        self.assertEqual(fault("=" + 16 * "9"), 1)
        self.assertEqual(fault("=" + 16 * "0"), 1)
        self.assertEqual(fault("=1 + " + 16 * "1"), 5)
        self.assertEqual(fault("=" + 5000 * "1"), 1)

    def test_figures_behind(self):
        self.assertTrue(alone("=1." + 12 * "9", "number"))
        self.assertTrue(alone("=1." + 12 * "0", "number"))
        self.assertEqual(fault("=1." + 13 * "9"), 1)
        self.assertEqual(fault("=1." + 13 * "0"), 1)

    def test_greatest(self):
        self.assertTrue(alone("=999999999999999.999999", "number"))
        self.assertTrue(alone("=999999999999999.9999994999", "number"))
        self.assertEqual(fault("=999999999999999.9999995"), 1)
        self.assertEqual(fault("=999999999999999.999999500000"), 1)

    def test_points(self):
        self.assertEqual(fault("=1."), 2)
        self.assertEqual(fault("=1. 5"), 2)
        self.assertEqual(fault("=1.A"), 2)
        self.assertEqual(fault("=.5"), 1)
        self.assertEqual(fault("=1 .5"), 3)
        self.assertEqual(fault("=1.5.5"), 4)
        self.assertEqual(fault("=1..5"), 2)

    def test_what_stands_behind(self):
        self.assertEqual(pairs("=1E5"), [("number", "1"), ("cell", "E5")])
        self.assertEqual(pairs("=1.5x"), [("number", "1.5"), ("word", "X")])
        self.assertEqual(pairs("=1A"), [("number", "1"), ("word", "A")])
        self.assertEqual(pairs("=-1"), [("sign", "-"), ("number", "1")])
        self.assertEqual(fault("=1_0"), 2)
        self.assertEqual(fault("=1$"), 2)


class Cells(unittest.TestCase):
    def test_ordinary(self):
        for letter, row in itertools.product("ABCDEFGHIJ", range(1, 21)):
            for marks in itertools.product(("", "$"), repeat=2):
                self.assertTrue(alone(f"={marks[0]}{letter}{marks[1]}{row}", "cell"))

    def test_small_letters(self):
        self.assertEqual(tokens("=a1"), (("cell", 1, 3, "A1"),))
        self.assertEqual(tokens("=$j$20"), (("cell", 1, 6, "$J$20"),))

    def test_no_cells(self):
        for what in ("K1", "Z20", "A0", "A21", "A01", "A00", "A100", "AA1", "J021"):
            self.assertTrue(alone("=" + what, "word"), what)

    def test_marks_that_make_no_cell(self):
        for text, at in [("=$K1", 1), ("=$A21", 1), ("=$A0", 1), ("=A$21", 2), ("=A$0", 2),
                         ("=A$01", 2), ("=$A$21", 1), ("=$$A1", 1), ("=A$$1", 2), ("=A1$", 3),
                         ("=K$1", 2), ("=$A", 1), ("=A$", 2)]:
            self.assertEqual(fault(text), at, text)

    def test_what_makes_a_word(self):
        for what in ("A1A", "A1z", "A1_", "A1_B", "J20X", "A1K"):
            self.assertTrue(alone("=" + what, "word"), what)
        self.assertEqual(pairs("=A1("), [("word", "A1"), ("sign", "(")])
        self.assertEqual(pairs("=a1()"), [("word", "A1"), ("sign", "("), ("sign", ")")])
        self.assertEqual(fault("=$A1B"), 1)
        self.assertEqual(fault("=$A1_"), 1)
        self.assertEqual(fault("=$A1("), 1)
        self.assertEqual(fault("=A$1B"), 2)
        self.assertEqual(fault("=A$1("), 2)
        self.assertEqual(fault("=A$201"), 2)

    def test_other_signs_right_behind(self):
        self.assertEqual(pairs("=A1 ("), [("cell", "A1"), ("sign", "(")])
        self.assertEqual(pairs("=A1:B2"), [("cell", "A1"), ("sign", ":"), ("cell", "B2")])
        self.assertEqual(pairs("=A1:2"), [("cell", "A1"), ("sign", ":"), ("number", "2")])
        self.assertEqual(pairs("=A1:B"), [("cell", "A1"), ("sign", ":"), ("word", "B")])
        self.assertEqual(pairs("=A1!B2"), [("cell", "A1"), ("sign", "!"), ("cell", "B2")])
        self.assertEqual(pairs("=A1)"), [("cell", "A1"), ("sign", ")")])
        self.assertEqual(pairs('=A1"b"'), [("cell", "A1"), ("text", "b")])
        self.assertEqual(pairs("=A1$B1"), [("cell", "A1"), ("cell", "$B1")])
        self.assertEqual(fault("=A1.5"), 3)
        self.assertEqual(fault("=A1."), 3)
        self.assertEqual(fault("=A1.B"), 3)

    def test_blanks_within(self):
        self.assertEqual(pairs("=A 1"), [("word", "A"), ("number", "1")])
        self.assertEqual(fault("=$ A1"), 1)
        self.assertEqual(fault("=A$ 1"), 2)


class Columns(unittest.TestCase):
    def test_ordinary(self):
        for text in ("=A:A", "=A:J", "=J:A", "=$A:$J", "=$B:C", "=B:$C"):
            self.assertTrue(alone(text, "columns"), text)
        self.assertEqual(tokens("=a:$j"), (("columns", 1, 5, "A:$J"),))

    def test_no_columns(self):
        self.assertEqual(pairs("=A:K"), [("word", "A"), ("sign", ":"), ("word", "K")])
        self.assertEqual(pairs("=K:A"), [("word", "K"), ("sign", ":"), ("word", "A")])
        self.assertEqual(fault("=$A:K"), 1)
        self.assertEqual(fault("=A:$K"), 3)
        self.assertEqual(fault("=A$:B"), 2)

    def test_what_makes_no_columns(self):
        self.assertEqual(pairs("=A:BC"), [("word", "A"), ("sign", ":"), ("word", "BC")])
        self.assertEqual(pairs("=A:Bz"), [("word", "A"), ("sign", ":"), ("word", "BZ")])
        self.assertEqual(pairs("=A:A1"), [("word", "A"), ("sign", ":"), ("cell", "A1")])
        self.assertEqual(pairs("=A:B0"), [("word", "A"), ("sign", ":"), ("word", "B0")])
        self.assertEqual(pairs("=A:B_"), [("word", "A"), ("sign", ":"), ("word", "B_")])
        self.assertEqual(pairs("=A:B("), [("word", "A"), ("sign", ":"), ("word", "B"), ("sign", "(")])
        self.assertEqual(pairs("=A:B$1"), [("word", "A"), ("sign", ":"), ("cell", "B$1")])
        self.assertEqual(fault("=A:B$"), 4)
        for behind in ("C", "1", "_", "(", "$", "$1"):
            self.assertEqual(fault("=$A:B" + behind), 1, behind)

    def test_other_signs_right_behind(self):
        self.assertEqual(pairs("=A:B)"), [("columns", "A:B"), ("sign", ")")])
        self.assertEqual(pairs("=A:B:C"), [("columns", "A:B"), ("sign", ":"), ("word", "C")])
        self.assertEqual(pairs("=A:B ("), [("columns", "A:B"), ("sign", "(")])
        self.assertEqual(fault("=A:B."), 4)

    def test_blanks_beside_the_colon(self):
        for text in ("=A :B", "=A: B", "=A : B"):
            self.assertEqual(pairs(text), [("word", "A"), ("sign", ":"), ("word", "B")])


class Words(unittest.TestCase):
    def test_ordinary(self):
        for what in ("X", "sum", "Abc", "TRUE", "false", "x_1.y", "K9", "a_", "a.", "b..__", "z0",
                     "ISNUMBER", "let"):
            self.assertTrue(alone("=" + what, "word"), what)

    def test_twelve_signs(self):
        self.assertTrue(alone("=ABCDEFGHIJKL", "word"))
        self.assertTrue(alone("=A_2.5_7.9_bC", "word"))
        self.assertEqual(fault("=ABCDEFGHIJKLM"), 1)
        self.assertEqual(fault("=1+abcdefghijkl."), 3)
        self.assertEqual(fault("=K" + 12 * "_"), 1)
        self.assertEqual(fault("=K" + 5000 * "1"), 1)
        self.assertEqual(pairs("=ABCDEFGHIJKL MNOP"), [("word", "ABCDEFGHIJKL"), ("word", "MNOP")])

    def test_words_that_begin_like_something_else(self):
        for what in ("A1B", "A10x", "A1_", "B20_1", "TRUEX", "TRUE1", "TRUE.", "FALSE_", "A2B", "A210",
                     "J1K2", "NA", "DIV"):
            self.assertTrue(alone("=" + what, "word"), what)
        self.assertEqual(pairs("=A:BX"), [("word", "A"), ("sign", ":"), ("word", "BX")])

    def test_words_do_not_begin_so(self):
        self.assertEqual(fault("=_a"), 1)
        self.assertEqual(fault("=.a"), 1)
        self.assertEqual(pairs("=1a"), [("number", "1"), ("word", "A")])

    def test_what_ends_them(self):
        self.assertEqual(pairs("=x(y!z"), [("word", "X"), ("sign", "("), ("word", "Y"), ("sign", "!"),
                                           ("word", "Z")])
        self.assertEqual(fault("=x$"), 2)
        self.assertEqual(fault("=x#"), 2)
        self.assertEqual(fault("=x'"), 2)


class Signs(unittest.TestCase):
    def test_single_ones(self):
        for sign in "+-*/^&=<>(){},;:!":
            self.assertEqual(tokens("=" + sign), (("sign", 1, 2, sign),))

    def test_of_two(self):
        for sign in ("<>", "<=", ">="):
            self.assertEqual(tokens("=" + sign), (("sign", 1, 3, sign),))

    def test_longest(self):
        for written, wanted in [("==", "= ="), ("<<", "< <"), (">>", "> >"), ("><", "> <"), ("=<", "= <"),
                                ("=>", "= >"), ("<>=", "<> ="), ("<=>", "<= >"), (">=<", ">= <"),
                                ("<<>", "< <>"), (">>=", "> >="), ("<><=", "<> <="), ("::", ": :"),
                                ("--", "- -"), ("&&", "& &"), ("!=", "! =")]:
            self.assertEqual([what for kind, what in pairs("=" + written)], wanted.split(), written)

    def test_none(self):
        for sign in "$'?.@[]\\|~`_#":
            self.assertEqual(fault("=" + sign), 1, sign)
            self.assertEqual(fault("=1 " + sign), 3, sign)
            self.assertEqual(fault("=A1+ " + sign + " 1"), 5, sign)

    def test_every_printable_sign_alone(self):
        for sign in map(chr, range(32, 127)):
            if sign != "%":
                wanted = told("=" + sign)
                found = tokens("=" + sign) if fault("=" + sign) is None else fault("=" + sign)
                self.assertEqual(found, wanted, sign)


class Patterns(unittest.TestCase):
    """The tokens beside what regular expressions tell of many short texts."""

    def check(self, signs, length):
        for many in range(length + 1):
            for chosen in itertools.product(signs, repeat=many):
                text = "=" + "".join(chosen)
                wanted = told(text)
                if isinstance(wanted, int):
                    self.assertEqual(fault(text), wanted, text)
                else:
                    self.assertEqual(tokens(text), wanted, text)

    def test_places(self):
        self.check("aK120$:(", 5)

    def test_numbers_and_words(self):
        self.check("B10._( :", 5)

    def test_texts_and_errors(self):
        self.check(["\"", "#", "na", "!", "a", " ", "?"], 6)

    def test_signs(self):
        self.check("<>=!A1 ", 5)


if __name__ == "__main__":
    unittest.main()
