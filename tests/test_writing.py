"""Tests of [19]: the canonical text of a tree."""

import itertools
import unittest

from sheetworks.library import COUNTS
from sheetworks.tokens import tokens
from sheetworks.writing import write_formula

SHEETS = ((0, "MAIN"), (2, "X_1"), (7, "PLAN"))
RANKS = {"=": 1, "<>": 1, "<": 1, "<=": 1, ">": 1, ">=": 1, "&": 2, "+": 3, "-": 3, "*": 4, "/": 4,
         "^": 5}
EMPTY = ("empty",)
A1 = ("cell", None, 0, 0, False, False)
TOP = 10 ** 21 - 1


def number(whole):
    return ("number", whole * 1000000)


def text(s):
    return ("text", s)


def name(word):
    return ("name", word)


def sign(tree, which="-"):
    return ("sign", which, tree)


def binary(operator, left, right):
    return ("binary", operator, left, right)


def call(*arguments):
    return ("call", "SUM", arguments)


def applied(tree, *arguments):
    return ("apply", tree, arguments)


def cell(row, column, fixed_row=False, fixed_column=False, sheet=None):
    return ("cell", sheet, row, column, fixed_row, fixed_column)


ONE, TWO, THREE = number(1), number(2), number(3)


class Reader:
    """Reads what has operators, signs, whole numbers, names, brackets and calls of names.

    It follows the grammar of [15], so that what is written can be held against it.
    """

    def __init__(self, written):
        self.waiting = [what for _, _, _, what in tokens(written)] + [None]

    def taken(self, *wanted):
        if self.waiting[0] in wanted:
            return self.waiting.pop(0)
        return None

    def row(self, rank):
        if rank == 6:
            return self.signed()
        operators = [operator for operator in RANKS if RANKS[operator] == rank]
        tree = self.row(rank + 1)
        operator = self.taken(*operators)
        while operator:
            tree = binary(operator, tree, self.row(rank + 1))
            operator = self.taken(*operators)
        return tree

    def signed(self):
        which = self.taken("+", "-")
        return sign(self.signed(), which) if which else self.called()

    def called(self):
        if self.taken("("):
            tree = self.row(1)
            if not self.taken(")"):
                raise ValueError
        elif self.waiting[0] is None or not self.waiting[0].isalnum():
            raise ValueError
        else:
            word = self.waiting.pop(0)
            tree = number(int(word)) if word.isdigit() else name(word)
        while self.taken("("):
            arguments = [] if self.waiting[0] == ")" else [self.row(1)]
            while self.taken(","):
                arguments.append(self.row(1))
            if not self.taken(")"):
                raise ValueError
            tree = applied(tree, *arguments)
        return tree


def read(written):
    """The tree of a text, or None if it can not be read."""
    reader = Reader(written)
    try:
        tree = reader.row(1)
    except ValueError:
        return None
    return tree if reader.waiting == [None] else None


def without_one_pair(written):
    """The texts that are left when one pair of brackets is left out."""
    waiting = []
    for at, one in enumerate(written):
        if one == "(":
            waiting.append(at)
        if one == ")":
            first = waiting.pop()
            yield written[:first] + written[first + 1:at] + written[at + 1:]


class Writing(unittest.TestCase):
    def check(self, tree, wanted):
        self.assertEqual(write_formula(tree, SHEETS), wanted)


class Leaves(Writing):
    def test_numbers(self):
        for m, wanted in [(0, "=0"), (1000000, "=1"), (1500000, "=1.5"), (100000, "=0.1"),
                          (1, "=0.000001"), (1234560, "=1.23456"), (20 * 10 ** 6, "=20"),
                          (TOP, "=999999999999999.999999")]:
            self.check(("number", m), wanted)

    def test_numbers_below_nought(self):
        self.check(("number", -1000000), "=-1")
        self.check(("number", -2500000), "=-2.5")
        self.check(("number", -1), "=-0.000001")
        self.check(("number", -TOP), "=-999999999999999.999999")

    def test_texts(self):
        for s, wanted in [("", '=""'), ("a", '="a"'), ("aBc 1", '="aBc 1"'), ('"', '=""""'),
                          ('""', '=""""""'), ('a"b', '="a""b"'), ('"a', '="""a"'), ('a"', '="a"""'),
                          (" ", '=" "'), ("=1+1", '="=1+1"'), ("'x", "=\"'x\""),
                          (64 * '"', '="' + 128 * '"' + '"')]:
            self.check(text(s), wanted)

    def test_truth_values(self):
        self.check(("truth", True), "=TRUE")
        self.check(("truth", False), "=FALSE")

    def test_errors(self):
        for word in "DIV VALUE REF NAME NUM NA CALC SIZE LIMIT".split():
            self.check(("error", word), f"=#{word}!")

    def test_lost_place(self):
        self.check(binary("+", ("error", "REF"), call(A1, ("error", "REF"))), "=#REF!+SUM(A1,#REF!)")

    def test_names(self):
        for word in ("X", "RATE_1", "SUM", "LET", "LAMBDA", "A1", "A_LONG.WORD"):
            self.check(name(word), "=" + word)

    def test_arguments(self):
        tree = binary("+", cell(0, 0, sheet=7), ONE)
        self.assertEqual(write_formula(tree=tree, sheets=SHEETS), "=PLAN!A1+1")
        self.assertEqual(write_formula(tree, [(7, "PLAN")]), "=PLAN!A1+1")
        self.assertEqual(write_formula(ONE, ()), "=1")
        self.assertEqual(write_formula(ONE, []), "=1")

    def test_arguments_stay(self):
        sheets = [(7, "PLAN"), (0, "MAIN")]
        write_formula(cell(1, 1, sheet=7), sheets)
        self.assertEqual(sheets, [(7, "PLAN"), (0, "MAIN")])


class Places(Writing):
    def test_cells(self):
        for row, column in itertools.product(range(20), range(10)):
            place = "ABCDEFGHIJ"[column] + str(row + 1)
            self.check(cell(row, column), "=" + place)

    def test_marks_of_cells(self):
        self.check(cell(4, 2, False, False), "=C5")
        self.check(cell(4, 2, True, False), "=C$5")
        self.check(cell(4, 2, False, True), "=$C5")
        self.check(cell(4, 2, True, True), "=$C$5")

    def test_ranges(self):
        self.check(("range", None, 0, 0, 19, 9, False, False, False, False), "=A1:J20")
        self.check(("range", None, 2, 1, 2, 1, False, False, False, False), "=B3:B3")

    def test_marks_of_ranges(self):
        for marks in itertools.product((False, True), repeat=4):
            top, left, bottom, right = ["$" if mark else "" for mark in marks]
            self.check(("range", None, 1, 2, 4, 5, *marks), f"={left}C{top}2:{right}F{bottom}5")

    def test_rows(self):
        for low, high, wanted in [("", "", "=2:20"), ("$", "", "=$2:20"), ("", "$", "=2:$20"),
                                  ("$", "$", "=$2:$20")]:
            self.check(("rows", None, 1, 19, low == "$", high == "$"), wanted)
        self.check(("rows", None, 0, 0, False, False), "=1:1")

    def test_columns(self):
        for low, high, wanted in [("", "", "=B:J"), ("$", "", "=$B:J"), ("", "$", "=B:$J"),
                                  ("$", "$", "=$B:$J")]:
            self.check(("columns", None, 1, 9, low == "$", high == "$"), wanted)
        self.check(("columns", None, 0, 0, False, False), "=A:A")

    def test_sheets(self):
        for key, word in SHEETS:
            self.check(cell(0, 0, sheet=key), f"={word}!A1")
            self.check(("range", key, 0, 0, 1, 1, False, True, True, False), f"={word}!$A1:B$2")
            self.check(("rows", key, 0, 1, True, False), f"={word}!$1:2")
            self.check(("columns", key, 0, 1, False, True), f"={word}!A:$B")

    def test_name_as_it_is_told(self):
        tree = binary("+", cell(0, 0, sheet=0), cell(0, 1, sheet=5))
        self.assertEqual(write_formula(tree, [(5, "A_B"), (0, "ZZ9")]), "=ZZ9!A1+A_B!B1")
        self.assertEqual(write_formula(tree, [(0, "A_B"), (5, "ZZ9")]), "=A_B!A1+ZZ9!B1")

    def test_sheets_within(self):
        self.check(call(cell(0, 0, sheet=2), sign(cell(1, 1, sheet=7)), A1), "=SUM(X_1!A1,-PLAN!B2,A1)")


class Operators(Writing):
    def test_each(self):
        for operator in RANKS:
            self.check(binary(operator, A1, ONE), f"=A1{operator}1")

    def test_on_the_left(self):
        for outer, inner in itertools.product(RANKS, repeat=2):
            wanted = f"=1{inner}2{outer}3"
            if RANKS[inner] < RANKS[outer]:
                wanted = f"=(1{inner}2){outer}3"
            self.check(binary(outer, binary(inner, ONE, TWO), THREE), wanted)

    def test_on_the_right(self):
        for outer, inner in itertools.product(RANKS, repeat=2):
            wanted = f"=1{outer}2{inner}3"
            if RANKS[inner] <= RANKS[outer]:
                wanted = f"=1{outer}(2{inner}3)"
            self.check(binary(outer, ONE, binary(inner, TWO, THREE)), wanted)

    def test_told_ones(self):
        for tree, wanted in [
                (binary("^", binary("^", TWO, THREE), TWO), "=2^3^2"),
                (binary("^", TWO, binary("^", THREE, TWO)), "=2^(3^2)"),
                (binary("^", sign(TWO), TWO), "=-2^2"),
                (sign(binary("^", TWO, TWO)), "=-(2^2)"),
                (binary("-", ONE, binary("-", TWO, THREE)), "=1-(2-3)"),
                (binary("-", binary("-", ONE, TWO), THREE), "=1-2-3"),
                (binary("=", ONE, binary("<", TWO, THREE)), "=1=(2<3)"),
                (binary("*", binary("+", ONE, TWO), binary("&", TWO, THREE)), "=(1+2)*(2&3)")]:
            self.check(tree, wanted)

    def test_signs(self):
        for which in "+-":
            self.check(sign(ONE, which), f"={which}1")
            self.check(sign(sign(ONE, which), "-"), f"=-{which}1")
            self.check(sign(sign(sign(A1, which)), "+"), f"=+-{which}A1")
            for operator in RANKS:
                self.check(sign(binary(operator, ONE, TWO), which), f"={which}(1{operator}2)")
                self.check(binary(operator, sign(ONE, which), TWO), f"={which}1{operator}2")
                self.check(binary(operator, ONE, sign(TWO, which)), f"=1{operator}{which}2")
        self.check(sign(sign(binary("*", sign(ONE), sign(TWO)))), "=--(-1*-2)")
        self.check(binary("^", sign(sign(TWO)), sign(sign(THREE))), "=--2^--3")

    def test_signs_of_others(self):
        for tree, wanted in [(call(ONE), "SUM(1)"), (applied(name("F"), ONE), "F(1)"), (text("a"), '"a"'),
                             (("array", ((ONE,),)), "{1}"), (("error", "NA"), "#NA!"),
                             (("let", ("X",), (ONE,), A1), "LET(X,1,A1)"),
                             (("lambda", ("X",), A1), "LAMBDA(X,A1)"), (("truth", True), "TRUE"),
                             (applied(sign(name("F"))), "(-F)()")]:
            self.check(sign(tree), "=-" + wanted)
            self.check(binary("^", tree, tree), f"={wanted}^{wanted}")

    def test_numbers_below_nought_as_operands(self):
        self.check(binary("^", ("number", -2000000), ("number", -3000000)), "=-2^-3")

    def test_read_again(self):
        """Each pair of brackets is needed, and none is missing."""
        for tree in shapes():
            written = write_formula(tree, SHEETS)
            self.assertEqual(read(written), tree, written)
            for shorter in without_one_pair(written):
                self.assertNotEqual(read(shorter), tree, written)

    def test_deep_trees(self):
        left, right = ONE, ONE
        for _ in range(5000):
            left, right = binary("-", left, ONE), binary("-", ONE, right)
        self.check(left, "=1" + 5000 * "-1")
        self.check(right, "=" + 4999 * "1-(" + "1-1" + 4999 * ")")


def shapes():
    """All trees of some operators and signs, three at most."""
    operators = ("=", "<>", "&", "+", "-", "*", "^")
    level = [ONE]
    for _ in range(2):
        level = [ONE] + [binary(operator, left, right) for operator in operators
                         for left in level for right in level] + [sign(tree) for tree in level]
    last = [ONE, sign(ONE), binary("&", ONE, ONE), binary("^", ONE, ONE)]
    wrapped = [binary(operator, *pair) for tree in level for operator in operators
               for other in last for pair in ((tree, other), (other, tree))]
    return level + wrapped + [sign(tree) for tree in level]


class Calls(Writing):
    def test_ordinary(self):
        self.check(call(ONE), "=SUM(1)")
        self.check(call(ONE, A1, text("x")), '=SUM(1,A1,"x")')
        self.check(("call", "NA", ()), "=NA()")
        self.check(call(call(call(ONE), TWO), THREE), "=SUM(SUM(SUM(1),2),3)")

    def test_each_word(self):
        for word in COUNTS:
            self.check(("call", word, (ONE, TWO)), f"={word}(1,2)")

    def test_arguments_need_no_brackets(self):
        for operator in RANKS:
            tree = binary(operator, ONE, TWO)
            self.check(call(tree, tree), f"=SUM(1{operator}2,1{operator}2)")
            self.check(applied(name("F"), tree, sign(tree)), f"=F(1{operator}2,-(1{operator}2))")
            self.check(("let", ("X",), (tree,), tree), f"=LET(X,1{operator}2,1{operator}2)")
            self.check(("lambda", ("X",), tree), f"=LAMBDA(X,1{operator}2)")

    def test_missing_arguments(self):
        for many in range(2, 17):
            for given in itertools.product((True, False), repeat=min(many, 4)):
                arguments = [ONE if k >= 4 or given[k] else EMPTY for k in range(many)]
                wanted = "(" + ",".join(["" if x == EMPTY else "1" for x in arguments]) + ")"
                self.check(call(*arguments), "=SUM" + wanted)
                self.check(applied(name("F"), *arguments), "=F" + wanted)
        self.check(("call", "IF", (A1, ONE, EMPTY)), "=IF(A1,1,)")
        self.check(("call", "IF", (A1, EMPTY, EMPTY)), "=IF(A1,,)")

    def test_let(self):
        self.check(("let", ("X",), (ONE,), name("X")), "=LET(X,1,X)")
        self.check(("let", ("X", "Y_2"), (ONE, binary("+", name("X"), TWO)), name("Y_2")), "=LET(X,1,Y_2,X+2,Y_2)")
        self.check(("let", ("X", "X"), (EMPTY, A1), EMPTY), "=LET(X,,X,A1,)")
        words = tuple("ABCDEFG")
        self.check(("let", words, (ONE,) * 7, TWO), "=LET(A,1,B,1,C,1,D,1,E,1,F,1,G,1,2)")

    def test_lambda(self):
        self.check(("lambda", (), ONE), "=LAMBDA(1)")
        self.check(("lambda", ("X",), name("X")), "=LAMBDA(X,X)")
        self.check(("lambda", ("X", "Y", "Z"), binary("*", name("X"), name("Z"))), "=LAMBDA(X,Y,Z,X*Z)")
        self.check(("lambda", ("X",), EMPTY), "=LAMBDA(X,)")
        self.check(binary("+", ("lambda", ("X",), name("X")), ("let", ("X",), (ONE,), TWO)),
                   "=LAMBDA(X,X)+LET(X,1,2)")


class Applies(Writing):
    def test_bare(self):
        function = ("lambda", ("X",), name("X"))
        for tree, wanted in [(call(A1), "SUM(A1)"), (function, "LAMBDA(X,X)"),
                             (("let", ("X",), (ONE,), function), "LET(X,1,LAMBDA(X,X))"),
                             (applied(name("F")), "F()"), (name("F"), "F"), (name("A1"), "A1"),
                             (name("SUMS"), "SUMS"), (name("A_LONG.WORD"), "A_LONG.WORD")]:
            self.check(applied(tree, ONE), f"={wanted}(1)")
            self.check(applied(tree), f"={wanted}()")
            self.check(applied(applied(tree, ONE), TWO), f"={wanted}(1)(2)")

    def test_in_brackets(self):
        for tree, wanted in [(ONE, "1"), (number(-1), "-1"), (text("a"), '"a"'), (("truth", True), "TRUE"),
                             (("error", "REF"), "#REF!"), (A1, "A1"), (cell(0, 0, True, True, 7), "PLAN!$A$1"),
                             (("range", None, 0, 0, 1, 1, *[False] * 4), "A1:B2"),
                             (("rows", None, 0, 1, False, False), "1:2"),
                             (("columns", 0, 0, 1, False, False), "MAIN!A:B"),
                             (sign(name("F")), "-F"), (sign(call(ONE), "+"), "+SUM(1)"),
                             (("array", ((ONE, TWO),)), "{1,2}")]:
            self.check(applied(tree, ONE), f"=({wanted})(1)")
            self.check(applied(tree), f"=({wanted})()")
        for operator in RANKS:
            self.check(applied(binary(operator, ONE, name("F")), TWO), f"=(1{operator}F)(2)")

    def test_names_that_are_words_of_the_library(self):
        for word in [*COUNTS, "LET", "LAMBDA"]:
            self.check(applied(name(word), ONE), f"=({word})(1)")
            self.check(applied(applied(name(word)), ONE), f"=({word})()(1)")

    def test_as_operands(self):
        tree = applied(name("F"), ONE)
        self.check(binary("^", tree, sign(tree)), "=F(1)^-F(1)")
        self.check(call(tree, EMPTY), "=SUM(F(1),)")


class Arrays(Writing):
    def test_one_constant(self):
        for v, wanted in [(ONE, "1"), (number(-1), "-1"), (("number", -2500000), "-2.5"),
                          (("number", 0), "0"), (text("a"), '"a"'), (text(""), '""'),
                          (text('a"b'), '"a""b"'), (("truth", True), "TRUE"),
                          (("truth", False), "FALSE"), (("error", "NA"), "#NA!")]:
            self.check(("array", ((v,),)), "={" + wanted + "}")

    def test_rows_and_columns(self):
        self.check(("array", ((ONE, TWO, THREE),)), "={1,2,3}")
        self.check(("array", ((ONE,), (TWO,), (THREE,))), "={1;2;3}")
        self.check(("array", ((ONE, text("x;y,")), (("truth", True), number(-3)), (("error", "DIV"), TWO))),
                   '={1,"x;y,";TRUE,-3;#DIV!,2}')
        self.check(("array", ((ONE,) * 20,) * 3), "={" + ";".join([",".join(["1"] * 20)] * 3) + "}")

    def test_within(self):
        tree = ("array", ((ONE, number(-2)),))
        self.check(call(tree, sign(tree)), "=SUM({1,-2},-{1,-2})")
        self.check(binary("^", tree, tree), "={1,-2}^{1,-2}")


if __name__ == "__main__":
    unittest.main()
