"""What several tests of formulas need: a world, short ways to evaluate, counts of steps and levels."""

import unittest

from sheetworks.evaluation import evaluated
from sheetworks.parsing import read_formula

SHEETS = ((0, "MAIN"), (7, "PLAN"))
SCALE = 1000000
TOP = 10 ** 21 - 1
EMPTY = ("empty",)
TRUE = ("truth", True)
FALSE = ("truth", False)


def number(n):
    """The number that a text of figures, or an integer, tells."""
    whole, _, behind = str(n).lstrip("-").partition(".")
    size = int(whole) * SCALE + int(behind.ljust(6, "0") or "0")
    return ("number", -size if str(n).startswith("-") else size)


def text(s):
    return ("text", s)


def error(word):
    return ("error", word)


def scalar(told):
    """A scalar, told by a Python value: an error by its word with a #."""
    if told is None:
        return EMPTY
    if told is True or told is False:
        return ("truth", told)
    if isinstance(told, int):
        return number(told)
    if isinstance(told, tuple):
        return told
    return error(told[1:]) if told.startswith("#") else text(told)


def value(told):
    """A value: a list of rows, each a list, or a scalar."""
    if not isinstance(told, list):
        return scalar(told)
    assert len({len(row) for row in told}) == 1
    members = tuple([scalar(one) for row in told for one in row])
    return ("array", len(told), len(told[0]), members)


class Told:
    """A world by the three methods that evaluations ask; it tells what it was asked."""

    def __init__(self, cells=(), unknown=(), names=(), sheets=SHEETS):
        self.cells = dict(cells)
        self.unknown = list(unknown)
        self.names = dict(names)
        self.sheets = {name: key for key, name in sheets}
        self.asked = []

    def cell(self, key, row, column):
        self.asked.append(("cell", key, row, column))
        if (key, row, column) in self.unknown:
            return None
        return self.cells.get((key, row, column), EMPTY)

    def name(self, word):
        self.asked.append(("name", word))
        return self.names.get(word)

    def sheet(self, word):
        self.asked.append(("sheet", word))
        return self.sheets.get(word)


def place(what, key=0):
    """The place of a cell such as B3."""
    return (key, int(what[1:]) - 1, "ABCDEFGHIJ".index(what[0]))


def world(cells=None, unknown=(), names=None):
    """A world of the sheet MAIN, its cells told by such words as B3."""
    told = {place(what): scalar(one) for what, one in (cells or {}).items()}
    trees = {word: read(formula) for word, formula in (names or {}).items()}
    return Told(told, [place(what) for what in unknown], trees)


def read(formula):
    return read_formula(formula, SHEETS)


def result(formula, cells=None, unknown=(), names=None):
    """What the formula comes to on the sheet MAIN."""
    return evaluated(read(formula), 0, world(cells, unknown, names))[0]


def cells_read(formula, cells=None, unknown=(), names=None):
    """The cells of MAIN that the formula reads, as a string of words."""
    reads = evaluated(read(formula), 0, world(cells, unknown, names))[1]
    told = []
    for one in reads:
        told.append("ABCDEFGHIJ"[one[3]] + str(one[2] + 1) if one[0] == "cell" else ":".join(one))
    return " ".join(told)


def padded(tree, many):
    """A tree behind as many steps; it is evaluated one level deeper than alone."""
    parts = []
    # A let is a step, a call of SUM one, a range one, each cell one.
    left = many - 2
    while left > 1:
        rows = min((left - 1) // 10, 20)
        part = ("range", 7, 0, 0, rows - 1, 9) + (True,) * 4 if rows > 0 else ("cell", 7, 0, 0) + (True,) * 2
        parts.append(part)
        left -= 1 + (rows * 10 if rows > 0 else 1)
    parts += [("array", ((number(1),),))] * left
    return ("let", ("PAD_",), (("call", "SUM", tuple(parts)),), tree)


def is_limited(tree, a_world):
    return evaluated(tree, 0, a_world)[0] == error("LIMIT")


def steps_of(formula, cells=None, unknown=(), names=None):
    """How many steps the formula has, by how many may go ahead of it."""
    tree = read(formula)
    least, most = 0, 600
    while least < most:
        middle = (least + most) // 2
        if is_limited(padded(tree, 600 - middle), world(cells, unknown, names)):
            least = middle + 1
        else:
            most = middle
    return least


def levels_of(formula, cells=None, names=None):
    """How many levels the formula has, by how many may stand round it."""
    tree = read(formula)
    round_it = 0
    while not is_limited(tree, world(cells, (), names)):
        tree = ("let", ("PAD_",), (number(0),), tree)
        round_it += 1
    return 37 - round_it


class FormulaCase(unittest.TestCase):
    """Tests that hold what formulas come to against what is told of them."""

    CELLS = {"A1": 5, "A2": "x", "A3": True, "A4": "#DIV", "B1": 2, "B2": "7", "C1": -3}

    def check(self, *table, cells=None, names=None):
        """Each formula and what it comes to."""
        for formula, told in table:
            found = result(formula, self.CELLS if cells is None else cells, (), names)
            self.assertEqual(found, value(told), formula)

    def check_reads(self, *table, cells=None, names=None, unknown=()):
        """Each formula and the words of what it reads."""
        for formula, told in table:
            found = cells_read(formula, self.CELLS if cells is None else cells, unknown, names)
            self.assertEqual(found, told, formula)

    def check_steps(self, *table, cells=None, names=None):
        """Each formula and how many steps it has."""
        for formula, told in table:
            found = steps_of(formula, self.CELLS if cells is None else cells, (), names)
            self.assertEqual(found, told, formula)

    def check_unknown(self, formula, cells=None, names=None):
        """Whatever cell of its reads is unknown, the formula ends there."""
        known = self.CELLS if cells is None else cells
        words = cells_read(formula, known, (), names).split()
        for at, word in enumerate(words):
            if ":" not in word:
                self.assertIsNone(result(formula, known, [word], names), formula)
                self.assertEqual(cells_read(formula, known, [word], names).split(), words[:at + 1], formula)
