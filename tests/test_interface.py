"""Tests of the interface at the end of DOC.md: names, arguments, where each is defined."""

import ast
import importlib
import inspect
import pathlib
import unittest

PACKAGE = pathlib.Path(__file__).resolve().parent.parent / "sheetworks"

# The functions and classes of each module that has landed, with their arguments.
CALLS = {
    "errors": {
        "BadPlace": ["at"], "BadText": ["at"], "Fault": ["at"], "BadJournal": ["at"],
        "BadName": ["name"], "BlockCut": ["sheet", "row", "column"], "NoRoom": ["word"],
        "NothingThere": ["word"]},
    "numbers": {
        "half_even": ["a", "b"], "added": ["m", "n"], "subtracted": ["m", "n"],
        "multiplied": ["m", "n"], "divided": ["m", "n"], "remainder": ["m", "n"],
        "raised": ["m", "n"], "negated": ["m"], "floored": ["m"], "root": ["m"],
        "shown_amount": ["m"], "read_amount": ["text"]},
    "values": {
        "array": ["h", "w", "members"], "height": ["v"], "width": ["v"],
        "member": ["v", "i", "j"], "text_of": ["s"], "number_of": ["m"], "as_number": ["v"],
        "as_text": ["v"], "as_truth": ["v"], "as_whole": ["v"], "shown": ["v"],
        "compared": ["a", "b"], "order_key": ["v"]},
    "tokens": {"tokens": ["text"]},
    "trees": {"nodes": ["tree"], "depth": ["tree"], "areas": ["tree"]},
    "parsing": {"read_formula": ["text", "sheets"]},
    "writing": {"write_formula": ["tree", "sheets"]},
    "moves": {
        "area_of": ["node", "own"], "shifted": ["tree", "down", "right"],
        "inserted": ["tree", "own", "key", "at", "many", "is_rows"],
        "deleted": ["tree", "own", "key", "at", "many", "is_rows"],
        "carried": ["tree", "own", "own_after", "source", "target"], "dropped": ["tree", "key"]},
    "arrays": {"broadcast": ["deed", "a", "b"]},
    "evaluation": {"evaluated": ["tree", "own", "world"]},
    "journals": {"replayed": ["text"], "rescued": ["text"]},
    "states": {"saved": ["book"], "loaded": ["text"]},
}
# The methods of each class, with their arguments.
AREA = ["sheet", "row", "column", "height", "width"]
TARGET = ["to_sheet", "to_row", "to_column"]
CLASSES = {
    "worlds": {"World": {
        "__init__": ["cells", "unknown", "names", "sheets"], "cell": ["key", "row", "column"],
        "name": ["word"], "sheet": ["word"]}},
    "book": {"Book": {
        "__init__": ["evaluate"], "sheets": [], "put": [*AREA[:3], "text"], "text": AREA[:3],
        "put_block": [*AREA, "text"], "block_of": AREA[:3], "define": ["name", "text"], "undefine": ["name"],
        "names": [], "definition": ["name"], "value": AREA[:3], "shown": AREA[:3], "reads": AREA[:3],
        "probe": ["sheet", "text"], "anew": [], "changed": [], "readers": AREA[:3], "circle": AREA[:3],
        "clear": AREA, "copy": AREA + TARGET, "cut": AREA + TARGET, "fill_down": AREA, "fill_right": AREA,
        "sort_rows": [*AREA, "key", "falling"], "insert_rows": ["sheet", "at", "many"],
        "insert_columns": ["sheet", "at", "many"], "delete_rows": ["sheet", "at", "many"],
        "delete_columns": ["sheet", "at", "many"], "add_sheet": ["at", "name"], "drop_sheet": ["at"],
        "rename_sheet": ["at", "name"], "move_sheet": ["at", "to"], "undo": [], "redo": [], "undo_depth": [],
        "redo_depth": [], "begin": [], "commit": [], "abort": [], "journal": []}},
}
CONSTANTS = {"numbers": ["SCALE"], "values": ["ERRORS", "EMPTY"], "library": ["COUNTS"]}


class Interface(unittest.TestCase):
    def test_arguments(self):
        for module, calls in CALLS.items():
            found = importlib.import_module("sheetworks." + module)
            for name, wanted in calls.items():
                told = inspect.signature(getattr(found, name)).parameters
                self.assertEqual(list(told), wanted, name)
                for parameter in told.values():
                    self.assertIs(parameter.default, inspect.Parameter.empty, name)
                    self.assertIs(parameter.kind, inspect.Parameter.POSITIONAL_OR_KEYWORD, name)

    def test_defined_in_its_own_file(self):
        for module, calls in CALLS.items():
            body = ast.parse((PACKAGE / (module + ".py")).read_text()).body
            defined = [x.name for x in body if isinstance(x, (ast.FunctionDef, ast.ClassDef))]
            self.assertEqual([name for name in calls if name not in defined], [], module)

    def test_classes(self):
        for module, classes in CLASSES.items():
            body = ast.parse((PACKAGE / (module + ".py")).read_text()).body
            found = importlib.import_module("sheetworks." + module)
            for name, methods in classes.items():
                [made] = [x for x in body if isinstance(x, ast.ClassDef) and x.name == name]
                defined = [x.name for x in made.body if isinstance(x, ast.FunctionDef)]
                self.assertEqual([method for method in methods if method not in defined], [], name)
                for method, wanted in methods.items():
                    told = inspect.signature(getattr(getattr(found, name), method)).parameters
                    self.assertEqual(list(told)[1:], wanted, (name, method))
                    defaults = {x.name: x.default for x in told.values() if x.default is not inspect.Parameter.empty}
                    self.assertEqual(defaults, {"evaluate": None} if wanted == ["evaluate"] else {}, (name, method))

    def test_constants(self):
        for module, names in CONSTANTS.items():
            body = ast.parse((PACKAGE / (module + ".py")).read_text()).body
            assigned = [x.targets[0].id for x in body if isinstance(x, ast.Assign)]
            self.assertEqual([name for name in names if name not in assigned], [], module)


if __name__ == "__main__":
    unittest.main()
