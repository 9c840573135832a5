"""Tests of those rules of LANGUAGE.md that are easily seen in the code's tree."""

import ast
import builtins
import pathlib
import re
import unittest

PACKAGE = pathlib.Path(__file__).resolve().parent.parent / "sheetworks"

LIBRARY = {
    "heapq": "heappush heappop heapify heapreplace heappushpop",
    "math": "gcd lcm isqrt comb perm factorial",
    "itertools": "product combinations permutations chain accumulate pairwise islice zip_longest",
    "collections": "defaultdict"}
BUILTINS = """len range enumerate zip min max sum abs sorted reversed int str bool list tuple dict
    set isinstance ord repr any all divmod map iter next getattr hasattr setattr super property
    staticmethod classmethod object Exception ValueError TypeError KeyError IndexError LookupError
    ZeroDivisionError StopIteration NotImplemented""".split()
BARRED = """float Div Global AsyncFunctionDef Await TypeAlias Import""".split()
METHODS = """append clear copy count endswith extend find get index insert isalnum isalpha isdigit
    islower isspace isupper items join keys ljust lower lstrip partition pop remove replace reverse
    rfind rjust rpartition rsplit rstrip setdefault split splitlines startswith strip update upper
    values zfill bit_length title capitalize swapcase casefold center expandtabs removeprefix
    removesuffix rindex isascii isdecimal isnumeric istitle isidentifier isprintable translate
    maketrans sort add discard encode""".split()


def trees():
    for path in sorted(PACKAGE.glob("*.py")):
        yield path, ast.parse(path.read_text())


def nodes(*kinds):
    for path, tree in trees():
        for node in ast.walk(tree):
            if isinstance(node, kinds):
                yield f"{path.name}:{getattr(node, 'lineno', 0)}", node


class Language(unittest.TestCase):
    def test_files(self):
        names = [path.name for path in PACKAGE.iterdir() if path.name != "__pycache__"]
        self.assertIn("__init__.py", names)
        self.assertEqual([name for name in names if not re.fullmatch("[a-z0-9_]+[.]py", name)], [])

    def test_lines(self):
        for path in PACKAGE.glob("*.py"):
            text = path.read_bytes().decode("ascii")
            self.assertFalse(set(text) - {"\n"} - set(map(chr, range(32, 127))), path)
            self.assertLessEqual(len(text.splitlines()), 399, path)
            self.assertLessEqual(max(map(len, text.splitlines())), 120, path)

    def test_functions_are_short(self):
        for where, node in nodes(ast.FunctionDef):
            self.assertLessEqual(node.end_lineno - node.lineno + 1, 40, where)

    def test_kinds_of_code(self):
        for where, node in nodes(ast.AST):
            self.assertNotIn(node.__class__.__name__, BARRED, where)

    def test_constants(self):
        for where, node in nodes(ast.Constant):
            self.assertNotIsInstance(node.value, (float, complex), where)
            if isinstance(node.value, str):
                self.assertNotIn("%", node.value, where)

    def test_imports(self):
        for where, node in nodes(ast.ImportFrom):
            self.assertEqual(node.level, 0, where)
            if node.module in LIBRARY:
                allowed = LIBRARY[node.module].split()
                self.assertEqual([x.name for x in node.names if x.name not in allowed], [], where)
            else:
                self.assertTrue(node.module.startswith("sheetworks."), where)
                self.assertNotIn("*", [x.name for x in node.names], where)

    def test_builtins(self):
        for where, node in nodes(ast.Name):
            if hasattr(builtins, node.id):
                self.assertIn(node.id, BUILTINS, where)
                self.assertIsInstance(node.ctx, ast.Load, where)

    def test_no_name_of_a_builtin(self):
        for where, node in nodes(ast.arg, ast.FunctionDef, ast.ClassDef, ast.alias):
            name = getattr(node, "arg", None) or node.name
            self.assertFalse(hasattr(builtins, name) and not name.startswith("__"), where)

    def test_module_level(self):
        for path, tree in trees():
            for node in tree.body:
                where = f"{path.name}:{node.lineno}"
                if isinstance(node, ast.Expr):
                    self.assertIsInstance(node.value, ast.Constant, where)
                else:
                    self.assertIsInstance(node, (ast.ImportFrom, ast.FunctionDef, ast.ClassDef, ast.Assign), where)
                if isinstance(node, ast.Assign):
                    self.assertEqual([x.__class__ for x in node.targets], [ast.Name], where)
                    inner = [x for x in ast.walk(node.value) if isinstance(x, (ast.List, ast.Dict))]
                    self.assertIn(inner, ([], [node.value]), where)
                    calls = [x for x in ast.walk(node.value) if isinstance(x, (ast.Call, ast.comprehension))]
                    self.assertEqual(calls, [], where)

    def test_names_are_bound_once(self):
        for path, tree in trees():
            bound = []
            for node in tree.body:
                if isinstance(node, ast.ImportFrom):
                    bound.extend([x.name for x in node.names])
                if isinstance(node, (ast.FunctionDef, ast.ClassDef)):
                    bound.append(node.name)
                if isinstance(node, ast.Assign):
                    bound.append(node.targets[0].id)
            self.assertEqual(len(bound), len(set(bound)), path)
            imported = [x.name for node in tree.body if isinstance(node, ast.ImportFrom) for x in node.names]
            for node in ast.walk(tree):
                if isinstance(node, (ast.arg, ast.Name)) and not isinstance(getattr(node, "ctx", None), ast.Load):
                    self.assertNotIn(getattr(node, "arg", None) or node.id, imported, path)

    def test_files_do_not_import_in_circles(self):
        imports = {}
        for path, tree in trees():
            found = [node.module for node in tree.body if isinstance(node, ast.ImportFrom)]
            imports[path.stem] = [module.split(".")[1] for module in found if module.startswith("sheetworks.")]
        while imports:
            free = [name for name in imports if not [x for x in imports[name] if x in imports]]
            self.assertNotEqual(free, [], sorted(imports))
            imports = {name: imports[name] for name in imports if name not in free}

    def test_names(self):
        for where, node in nodes(ast.Name, ast.arg, ast.FunctionDef, ast.ClassDef, ast.Attribute):
            found = [getattr(node, kind, None) for kind in ("id", "arg", "name", "attr")]
            for name in [name for name in found if name]:
                if name.startswith("__"):
                    self.assertTrue(name.endswith("__"), where)

    def test_methods(self):
        own = [node.name for _, node in nodes(ast.FunctionDef)]
        for where, node in nodes(ast.Call):
            if isinstance(node.func, ast.Attribute):
                self.assertIn(node.func.attr, METHODS + own, where)

    def test_attributes(self):
        allowed = "count index title find get join lower upper split strip copy add".split()
        barred = [name for kind in (str, int, list, dict, set, bytes) for name in dir(kind)] + ["args", "mro",
            "format"]
        for where, node in nodes(ast.Attribute):
            if isinstance(node.ctx, ast.Store) and node.attr not in allowed:
                self.assertNotIn(node.attr, barred, where)

    def test_names_that_are_not_used(self):
        barred = """register mro elements open input law version_info with_traceback add_note attrgetter breakpoint
            builtins compile copyright credits delattr dir eval exec exit gc globals help id importlib license locals
            methodcaller os quit type vars sys""".split()
        for where, node in nodes(ast.Name, ast.arg, ast.FunctionDef, ast.ClassDef):
            name = getattr(node, "id", None) or getattr(node, "arg", None) or node.name
            self.assertNotIn(name, barred, where)

    def test_no_method_is_an_attribute_of_its_class(self):
        for where, node in nodes(ast.ClassDef):
            methods = [one.name for one in node.body if isinstance(one, ast.FunctionDef)]
            self.assertEqual(len(methods), len(set(methods)), where)
            stored = [one.attr for one in ast.walk(node)
                      if isinstance(one, ast.Attribute) and isinstance(one.ctx, ast.Store)]
            self.assertEqual([name for name in methods if name in stored], [], where)

    def test_exponents(self):
        for where, node in nodes(ast.BinOp):
            if isinstance(node.op, ast.Pow):
                self.assertIsInstance(node.right, ast.Constant, where)
                self.assertLessEqual(node.right.value, 64, where)


if __name__ == "__main__":
    unittest.main()
