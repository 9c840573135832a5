"""Tests of [38a]: World."""

import unittest

from sheetworks.evaluation import evaluated
from sheetworks.parsing import read_formula
from sheetworks.worlds import World

ONE = ("number", 1000000)


class Worlds(unittest.TestCase):
    def test_answers(self):
        tree = read_formula("=MAIN!$A$1", [(0, "MAIN")])
        world = World({(0, 0, 0): ONE, (7, 19, 9): ("text", "x"), (0, 1, 1): ("empty",)}, [(0, 0, 1), (0, 2, 2)],
            {"X": tree}, [(0, "MAIN"), (7, "PLAN")])
        self.assertEqual(world.cell(0, 0, 0), ONE)
        self.assertEqual(world.cell(key=7, row=19, column=9), ("text", "x"))
        self.assertEqual(world.cell(0, 1, 1), ("empty",))
        self.assertEqual(world.cell(0, 5, 5), ("empty",))
        self.assertEqual(world.cell(3, 0, 0), ("empty",))
        self.assertIsNone(world.cell(0, 0, 1))
        self.assertIsNone(world.cell(0, 2, 2))
        self.assertEqual(world.name("X"), tree)
        self.assertEqual(world.name(word="X"), tree)
        self.assertIsNone(world.name("Y"))
        self.assertEqual(world.sheet("PLAN"), 7)
        self.assertEqual(world.sheet(word="MAIN"), 0)
        self.assertIsNone(world.sheet("X"))

    def test_unknown_ones_go_ahead(self):
        world = World(cells={(0, 0, 0): ONE}, unknown=((0, 0, 0),), names={}, sheets=())
        self.assertIsNone(world.cell(0, 0, 0))
        self.assertIsNone(world.sheet("MAIN"))

    def test_copies(self):
        cells, unknown, names, sheets = {(0, 0, 0): ONE}, [(0, 1, 1)], {"X": ONE}, [(0, "MAIN")]
        world = World(cells, unknown, names, sheets)
        cells[(0, 0, 0)] = ("empty",)
        cells[(0, 3, 3)] = ONE
        unknown.append((0, 0, 0))
        unknown.remove((0, 1, 1))
        del names["X"]
        names["Y"] = ONE
        sheets.append((5, "P"))
        sheets[0] = (9, "MAIN")
        self.assertEqual(world.cell(0, 0, 0), ONE)
        self.assertEqual(world.cell(0, 3, 3), ("empty",))
        self.assertIsNone(world.cell(0, 1, 1))
        self.assertEqual((world.name("X"), world.name("Y")), (ONE, None))
        self.assertEqual((world.sheet("MAIN"), world.sheet("P")), (0, None))

    def test_in_evaluations(self):
        world = World({(0, 0, 0): ONE}, [(0, 1, 0)], {}, [(0, "MAIN")])
        self.assertEqual(evaluated(read_formula("=A1+A3", ()), 0, world),
            (ONE, (("cell", 0, 0, 0), ("cell", 0, 2, 0))))
        self.assertEqual(evaluated(read_formula("=A1+A2+A3", ()), 0, world),
            (None, (("cell", 0, 0, 0), ("cell", 0, 1, 0))))


if __name__ == "__main__":
    unittest.main()
