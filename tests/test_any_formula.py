"""Tests of [34] over drawn formulas of all kinds: what comes is a value, and reads are told alike."""

import random
import unittest

from sheetworks.evaluation import evaluated
from sheetworks.library import COUNTS
from sheetworks.moves import carried, deleted, dropped, inserted, shifted
from sheetworks.numbers import SCALE
from sheetworks.parsing import read_formula
from sheetworks.trees import depth, nodes
from sheetworks.values import ERRORS
from sheetworks.writing import write_formula
from tests.helping import TOP, Told

SHEETS = ((0, "MAIN"), (7, "PLAN"))
PARTS = ["0", "1", "2", "3", "-1", "0.5", "1.5", "21", "64", "999999999999999", "TRUE", "FALSE", '""', '"a"', '"2"',
         '" b "', '"A1"', '"main!B2"', '"A1:B3"', '"1:2"', '">1"', '"true"', "#NA!", "#REF!", "#LIMIT!",
         "A1", "B2", "C3", "J20", "A1:B3", "B1:B5", "A2:D2", "A:A", "A:J", "1:1", "1:20", "PLAN!A1", "PLAN!A1:C3",
         "{1,2}", "{1;2}", "{1,2;3,4}", "{3,1,2}", '{"a";"b";"a"}', "{TRUE,#NA!,1}",
         "{1,2,3,4,5,6,7,8,9,10,11,12,13,14,15,16,17,18,19,20}",
         "LAMBDA(x,x)", "LAMBDA(x,y,x+y)", "LAMBDA(1)", "LAMBDA(x,A1:B2)", "LAMBDA(x,{1,2})", "F", "X", "R", "NOPE",
         "", "SEQUENCE(3)", "SEQUENCE(2,3)", "A1+1", "B1:B3*2", "1/0", '"' + "x" * 64 + '"', "SEQUENCE(16,4)",
         "A20:J20", "IF(1,)"]


class Formulas:
    """Draws formulas."""

    def __init__(self, seed):
        self.draw = random.Random(seed)

    def part(self, deep):
        if deep == 0 or self.draw.random() < 0.4:
            return self.draw.choice(PARTS)
        return self.call(deep)

    def call(self, deep):
        draw = self.draw
        word = draw.choice(list(COUNTS))
        least, greatest = COUNTS[word]
        many = draw.randrange(least, min(greatest, least + 3) + 1)
        parts = [self.part(deep - 1) for _ in range(many)]
        if many == 1 and parts[0] == "":
            parts = ["1"]
        if word in ("MAP", "REDUCE", "SCAN", "MAKEARRAY", "BYROW", "BYCOL") and draw.random() < 0.8:
            words = {"MAP": many - 1, "BYROW": 1, "BYCOL": 1}.get(word, 2)
            parts[-1] = self.function("pqrst"[:words])
        return f"{word}({','.join(parts)})"

    def function(self, words):
        body = self.draw.choice([words[0], "&".join(words), f"SUM({words[0]})", self.part(0)])
        return f"LAMBDA({','.join(words)},{body})"

    def formula(self):
        draw = self.draw
        way = draw.randrange(8)
        if way == 0:
            return f"=LET(X,{self.part(1)},Y,{self.part(1)},{self.call(1)}&X&Y)"
        if way == 1:
            return f"={self.call(1)}{draw.choice(['+', '&', '=', '*', '^', '<', '/'])}{self.call(1)}"
        if way == 2:
            return f"=LAMBDA(X,R,{self.call(1)})({self.part(1)},{self.part(1)})"
        if way == 3:
            return f"=-{self.call(2)}"
        return "=" + self.call(2)

    def tree(self):
        while True:
            try:
                return read_formula(self.formula(), SHEETS)
            except Exception as told:
                assert told.__class__.__name__ == "Fault", told

    def world(self):
        draw = self.draw
        scalars = [("number", n * SCALE) for n in (0, 1, 2, 3, -1, 5)] + [("number", TOP), ("number", -TOP),
            ("number", 500000), ("text", ""), ("text", "a"), ("text", "2"), ("text", "x" * 64), ("truth", True),
            ("truth", False), ("error", "NA"), ("error", "DIV"), ("empty",)]
        cells = {(key, i, j): draw.choice(scalars[:8] if draw.random() < 0.6 else scalars) for key in (0,
            7) for i in range(7) for j in range(5)}
        names = {"F": "=LAMBDA(z,z*2)", "X": "=5", "R": "=MAIN!$A$1:$B$3"}
        return Told(cells, (), {word: read_formula(text, SHEETS) for word, text in names.items()})


def is_scalar(v):
    kind = v[0]
    if kind == "number":
        return len(v) == 2 and isinstance(v[1], int) and not isinstance(v[1], bool) and -TOP <= v[1] <= TOP
    if kind == "text":
        return len(v) == 2 and isinstance(v[1], str) and len(v[1]) <= 64
    if kind == "truth":
        return len(v) == 2 and v[1] in (True, False) and isinstance(v[1], bool)
    return kind == "error" and v[1] in ERRORS and v[1] != "CIRC"


def is_value(v):
    if v[0] != "array":
        return is_scalar(v)
    _, h, w, members = v
    return 1 <= h <= 20 and 1 <= w <= 20 and 2 <= h * w <= 64 and isinstance(members,
        tuple) and len(members) == h * w and all(map(is_scalar, members))


class AnyFormula(unittest.TestCase):
    def test_drawn(self):
        drawn = Formulas(7)
        for _ in range(4000):
            tree = drawn.tree()
            self.one_formula(tree, drawn.world(), drawn.draw)

    def one_formula(self, tree, a_world, draw):
        note = write_formula(tree, SHEETS)
        self.assertEqual(read_formula(note, SHEETS), tree)
        result, reads = evaluated(tree, 0, a_world)
        self.assertTrue(is_value(result), (note, result))
        self.assertEqual(reads, tuple(dict.fromkeys(a_world.asked)), note)
        # A world that answers just these gives the same.
        cells = {one[1:]: a_world.cells.get(one[1:], ("empty",)) for one in reads if one[0] == "cell"}
        names = {one[1]: a_world.names[one[1]] for one in reads if one[0] == "name" and one[1] in a_world.names}
        self.assertEqual(evaluated(tree, 0, Told(cells, (), names)), (result, reads), note)
        # One that does not know a cell ends there.
        asked = [at for at, one in enumerate(reads) if one[0] == "cell"]
        for at in draw.sample(asked, min(3, len(asked))):
            less = Told(a_world.cells, [reads[at][1:]], a_world.names)
            self.assertEqual(evaluated(tree, 0, less), (None, reads[:at + 1]), note)

    def test_moved(self):
        drawn = Formulas(8)
        for _ in range(400):
            tree = drawn.tree()
            for other in (shifted(tree, 1, -1), inserted(tree, 0, 0, 1, 2, True), deleted(tree, 0, 7, 0, 2, False),
                carried(tree, 0, 7, (0, 0, 0, 2, 2), (7, 1, 1, 3, 3)), dropped(tree, 7)):
                self.assertEqual(read_formula(write_formula(other, SHEETS), SHEETS), other)
                self.assertEqual((nodes(other), depth(other)), (nodes(tree), depth(tree)))


if __name__ == "__main__":
    unittest.main()
