"""Tests of [22] to [28]: what becomes of references when cells move."""

import itertools
import random
import unittest

from sheetworks.moves import area_of, carried, deleted, dropped, inserted, shifted
from sheetworks.parsing import read_formula
from sheetworks.trees import areas, depth, nodes
from sheetworks.writing import write_formula

SHEETS = ((0, "MAIN"), (3, "X_1"), (7, "PLAN"))
LOST = ("error", "REF")
LETTERS = "ABCDEFGHIJ"


def read(text):
    return read_formula("=" + text, SHEETS)


def written(tree):
    return write_formula(tree, SHEETS)[1:]


def places(node, own):
    """The cells of the area that a node means."""
    key, top, left, bottom, right = area_of(node, own)
    return {(key, i, j) for i in range(top, bottom + 1) for j in range(left, right + 1)}


def every_node(sheets=(None, 3)):
    """Cells, ranges, rows and columns of several sizes, at and near the ends of the sheet."""
    rows, columns = (0, 1, 7, 18, 19), (0, 1, 4, 8, 9)
    found = []
    for sheet in sheets:
        found += [("cell", sheet, i, j, i == 1, j == 1) for i in rows for j in columns]
        pairs = [(low, high) for low in rows for high in rows if low <= high]
        across = [(low, high) for low in columns for high in columns if low <= high]
        found += [("range", sheet, top, left, bottom, right, top == 1, False, True, left == 4)
                  for top, bottom in pairs for left, right in across]
        found += [("rows", sheet, low, high, low == 1, False) for low, high in pairs]
        found += [("columns", sheet, low, high, False, low == 1) for low, high in across]
    return found


class Case(unittest.TestCase):
    def check(self, move, table):
        for before, behind in table:
            self.assertEqual(written(move(read(before))), behind, before)


class Areas(Case):
    def test_area_of(self):
        for text, area in (("B3", (5, 2, 1, 2, 1)), ("$B$3", (5, 2, 1, 2, 1)), ("PLAN!J20", (7, 19, 9, 19, 9)),
                           ("B3:C9", (5, 2, 1, 8, 2)), ("X_1!A1:J20", (3, 0, 0, 19, 9)), ("2:5", (5, 1, 0, 4, 9)),
                           ("PLAN!3:3", (7, 2, 0, 2, 9)), ("B:D", (5, 0, 1, 19, 3)), ("MAIN!J:J", (0, 0, 9, 19, 9))):
            self.assertEqual(area_of(read(text), 5), area, text)
        self.assertEqual(area_of(node=read("PLAN!A1"), own=None), (7, 0, 0, 0, 0))
        self.assertEqual(area_of(read("A1"), None), (None, 0, 0, 0, 0))


class Shifted(Case):
    def test_marks(self):
        self.check(lambda tree: shifted(tree, 2, 3), [
            ("A1", "D3"), ("$A1", "$A3"), ("A$1", "D$1"), ("$A$1", "$A$1"), ("PLAN!B2", "PLAN!E4"),
            ("A1:B2", "D3:E4"), ("$A1:B$2", "$A$2:E3"), ("A$1:$B2", "$B$1:D4"), ("$A$1:$B$2", "$A$1:$B$2"),
            ("1:2", "3:4"), ("$1:2", "$1:4"), ("1:$2", "$2:3"), ("$1:$2", "$1:$2"), ("A:B", "D:E"), ("$A:B", "$A:E"),
            ("A:$B", "$B:D"), ("PLAN!$A:$B", "PLAN!$A:$B"), ("A$3:B3", "D$3:E5"), ("A3:B$3", "D$3:E5"),
            ("A$3:B1", "D3:E$3"), ("A1:A$3", "D3:D$3")])
        self.check(lambda tree: shifted(tree, -1, -1), [
            ("B2", "A1"), ("A2", "#REF!"), ("B1", "#REF!"), ("A$1", "#REF!"), ("$A2", "$A1"), ("B2:C3", "A1:B2"),
            ("A2:C3", "#REF!"), ("B1:C3", "#REF!"), ("$A2:C3", "$A1:B2"), ("B$1:C3", "A$1:B2"), ("1:2", "#REF!"),
            ("2:2", "1:1"), ("A:B", "#REF!"), ("B:B", "A:A"), ("$3:3", "2:$3"), ("3:$3", "2:$3"), ("B:$B", "A:$B")])

    def test_ends_of_the_sheet(self):
        for many, text, behind in ((19, "A1", "A20"), (20, "A1", "#REF!"), (18, "A1:A2", "A19:A20"),
                                   (19, "A1:A2", "#REF!"), (19, "1:1", "20:20"), (19, "1:2", "#REF!"),
                                   (20, "$A:$B", "$A:$B"), (-19, "B20", "B1"), (-20, "B20", "#REF!"),
                                   (5, "B:C", "B:C"), (10 ** 30, "A:A", "A:A"), (10 ** 30, "A1", "#REF!"),
                                   (-10 ** 30, "A$1", "A$1"), (-10 ** 30, "A1", "#REF!")):
            self.assertEqual(written(shifted(read(text), many, 0)), behind)
        for many, text, behind in ((9, "A1", "J1"), (10, "A1", "#REF!"), (8, "A1:B1", "I1:J1"), (9, "A1:B1", "#REF!"),
                                   (-9, "J2", "A2"), (-10, "J2", "#REF!"), (9, "A:A", "J:J"), (9, "A:B", "#REF!"),
                                   (10 ** 30, "1:1", "1:1"), (10 ** 30, "$A1", "$A1"), (-10 ** 30, "B:B", "#REF!")):
            self.assertEqual(written(shifted(read(text), 0, many)), behind)
        self.assertEqual(shifted(tree=read("A1"), down=1, right=0), read("A2"))

    def test_nodes_in_nodes(self):
        self.check(lambda tree: shifted(tree, 1, 0), [
            ("SUM(A1,,1)", "SUM(A2,,1)"), ("LET(X,A1,Y,,X+B1)", "LET(X,A2,Y,,X+B2)"),
            ("LAMBDA(X,X*A1)(B1,)", "LAMBDA(X,X*A2)(B2,)"), ("F(A1)(1:1)", "F(A2)(2:2)"), ("-A1", "-A2"),
            ("A1+A$1*A20", "A2+A$1*#REF!"), ("FOO+{1,2}&\"A1\"", "FOO+{1,2}&\"A1\""), ("LAMBDA(A1)", "LAMBDA(A2)"),
            ("TRUE+1+#NA!", "TRUE+1+#NA!"), ("(A1)(2)", "(A2)(2)"), ("LET(X,A:A,A1:A2)", "LET(X,A:A,A2:A3)")])

    def test_twice(self):
        draw = random.Random(3)
        for _ in range(3000):
            i, j, k, m = draw.randrange(20), draw.randrange(20), draw.randrange(10), draw.randrange(10)
            marks = [draw.random() < 0.3 for _ in range(2)]
            tree = draw.choice([
                ("cell", None, i, k, *marks),
                ("range", 3, min(i, j), min(k, m), max(i, j), max(k, m), *marks, *marks),
                ("rows", None, min(i, j), max(i, j), marks[0], marks[0]),
                ("columns", 7, min(k, m), max(k, m), marks[0], marks[0])])
            a, b, c, d = [draw.randrange(-9, 10) for _ in range(4)]
            if shifted(tree, a, b) != LOST:
                self.assertEqual(shifted(shifted(tree, a, b), c, d), shifted(tree, a + c, b + d))


class Inserted(Case):
    def test_rows(self):
        self.check(lambda tree: inserted(tree, 0, 0, 4, 3, True), [
            ("A4", "A4"), ("A5", "A8"), ("$A$5", "$A$8"), ("A6", "A9"), ("A17", "A20"), ("A18", "#REF!"),
            ("A20", "#REF!"), ("MAIN!A5", "MAIN!A8"), ("PLAN!A5", "PLAN!A5"), ("PLAN!A20", "PLAN!A20"),
            ("B2:C4", "B2:C4"), ("B2:C5", "B2:C8"), ("B5:C5", "B8:C8"), ("B4:C$5", "B4:C$8"), ("B4:C18", "B4:C20"),
            ("B4:C20", "B4:C20"), ("B17:C20", "B20:C20"), ("B18:C20", "#REF!"), ("B18:C18", "#REF!"),
            ("1:4", "1:4"), ("4:5", "4:8"), ("$5:6", "$8:9"), ("5:20", "8:20"), ("17:18", "20:20"),
            ("18:19", "#REF!"),
            ("PLAN!18:19", "PLAN!18:19"), ("A:B", "A:B"), ("MAIN!A:J", "MAIN!A:J"),
            ("SUM(A5,-A6,LET(X,A4,Y,A5,X+A5),LAMBDA(A5)(A5,))", "SUM(A8,-A9,LET(X,A4,Y,A8,X+A8),LAMBDA(A8)(A8,))")])

    def test_columns(self):
        self.check(lambda tree: inserted(tree, 0, 0, 4, 3, False), [
            ("D1", "D1"), ("E1", "H1"), ("$G$1", "$J$1"), ("H1", "#REF!"), ("J20", "#REF!"), ("D1:E1", "D1:H1"),
            ("D1:J1", "D1:J1"), ("G1:H2", "J1:J2"), ("H1:I1", "#REF!"), ("A:D", "A:D"), ("A:$E", "A:$H"),
            ("E:J", "H:J"), ("H:H", "#REF!"), ("5:20", "5:20"), ("MAIN!E1", "MAIN!H1"), ("X_1!E1", "X_1!E1")])

    def test_other_sheets_and_names(self):
        for own, key, text, behind in ((7, 0, "A5", "A5"), (7, 0, "MAIN!A5", "MAIN!A6"), (7, 7, "A5", "A6"),
                                       (7, 7, "PLAN!A5", "PLAN!A6"), (7, 7, "MAIN!A5", "MAIN!A5"),
                                       (None, 0, "MAIN!$A$5", "MAIN!$A$6"), (None, 7, "MAIN!$A$5", "MAIN!$A$5"),
                                       (None, 0, "A5", "A5")):
            self.assertEqual(written(inserted(read(text), own, key, 4, 1, True)), behind)
            self.assertEqual(inserted(tree=read(text), own=own, key=key, at=4, many=1, is_rows=True), read(behind))

    def test_as_great_as_the_sheet(self):
        self.check(lambda tree: inserted(tree, 0, 0, 1, 20, True),
                   [("A1", "A1"), ("A2", "#REF!"), ("A1:A2", "A1:A20"), ("A2:A3", "#REF!"), ("1:20", "1:20")])
        self.check(lambda tree: inserted(tree, 0, 0, 0, 20, True), [("A1", "#REF!"), ("A1:A20", "#REF!")])
        self.check(lambda tree: inserted(tree, 0, 0, 19, 1, True),
                   [("A19", "A19"), ("A20", "#REF!"), ("A1:A20", "A1:A20"), ("20:20", "#REF!")])
        self.check(lambda tree: inserted(tree, 0, 0, 9, 10, False),
                   [("I1", "I1"), ("J1", "#REF!"), ("A:J", "A:J"), ("J:J", "#REF!")])

    def test_what_nodes_mean(self):
        for at, many, is_rows in ((0, 1, True), (7, 3, True), (19, 1, True), (1, 20, True), (0, 1, False),
                                  (4, 2, False), (9, 10, False)):
            size = 20 if is_rows else 10
            for node in every_node():
                tree = inserted(node, 0, 3, at, many, is_rows)
                if node[1] != 3 or node[0] == ("columns" if is_rows else "rows"):
                    self.assertEqual(tree, node)
                    continue
                axis = 1 if is_rows else 2
                _, *numbers = area_of(node, 0)
                low, high = numbers[axis - 1], numbers[axis + 1]
                ends = [n + many if n >= at else n for n in (low, high)]
                if ends[0] >= size:
                    self.assertEqual(tree, LOST)
                    continue
                numbers[axis - 1], numbers[axis + 1] = ends[0], min(ends[1], size - 1)
                self.assertEqual(area_of(tree, 0), (3, *numbers))
                self.assertEqual([x for x in tree if x in (True, False) and isinstance(x, bool)],
                                 [x for x in node if x in (True, False) and isinstance(x, bool)])


class Deleted(Case):
    def test_rows(self):
        self.check(lambda tree: deleted(tree, 0, 0, 4, 3, True), [
            ("A4", "A4"), ("A5", "#REF!"), ("$A$7", "#REF!"), ("A8", "A5"), ("$A$20", "$A$17"),
            ("PLAN!A5", "PLAN!A5"),
            ("A1:A4", "A1:A4"), ("A1:A5", "A1:A4"), ("A1:A7", "A1:A4"), ("A1:A8", "A1:A5"), ("A5:A7", "#REF!"),
            ("A6:A6", "#REF!"), ("A5:A8", "A5:A5"), ("A$7:B$9", "A$5:B$6"), ("A8:A9", "A5:A6"), ("A4:A$6", "A4:A$4"),
            ("1:5", "1:4"), ("$5:6", "#REF!"), ("6:$9", "5:$6"), ("8:8", "5:5"), ("A:J", "A:J"),
            ("MAIN!5:5", "#REF!"),
            ("SUM(A8,-A5,A4)", "SUM(A5,-#REF!,A4)"), ("LET(X,A8,LAMBDA(Y,A9)(A10))", "LET(X,A5,LAMBDA(Y,A6)(A7))")])

    def test_columns(self):
        self.check(lambda tree: deleted(tree, 0, 0, 1, 2, False), [
            ("A1", "A1"), ("B1", "#REF!"), ("C1", "#REF!"), ("$D1", "$B1"), ("J20", "H20"), ("A1:B1", "A1:A1"),
            ("B1:D1", "B1:B1"), ("B1:C9", "#REF!"), ("A:C", "A:A"), ("C:$E", "B:$C"), ("B:B", "#REF!"),
            ("1:20", "1:20"),
            ("PLAN!B1", "PLAN!B1")])

    def test_beyond_the_end(self):
        self.check(lambda tree: deleted(tree, 0, 0, 18, 20, True),
                   [("A18", "A18"), ("A19", "#REF!"), ("A20", "#REF!"), ("A1:A20", "A1:A18"), ("A19:A20", "#REF!")])
        self.check(lambda tree: deleted(tree, 0, 0, 0, 20, True),
            [("A1", "#REF!"), ("1:20", "#REF!"), ("A:A", "A:A")])
        self.check(lambda tree: deleted(tree, 0, 0, 9, 10, False), [("I1", "I1"), ("J1", "#REF!"), ("A:J", "A:I")])
        self.assertEqual(deleted(tree=read("A5"), own=0, key=0, at=0, many=1, is_rows=True), read("A4"))
        self.assertEqual(deleted(read("MAIN!$A$5"), None, 0, 0, 1, True), read("MAIN!$A$4"))
        self.assertEqual(deleted(read("A5"), 7, 0, 0, 1, True), read("A5"))

    def test_what_nodes_mean(self):
        """Each node means just the places to which its cells went."""
        for at, many, is_rows in ((0, 1, True), (7, 3, True), (19, 1, True), (1, 20, True), (0, 20, True),
                                  (0, 1, False), (4, 2, False), (9, 10, False), (0, 10, False)):
            for node in every_node():
                tree = deleted(node, 0, 3, at, many, is_rows)
                if node[1] != 3 or node[0] == ("columns" if is_rows else "rows"):
                    self.assertEqual(tree, node)
                    continue
                went = set()
                for key, i, j in places(node, 0):
                    n = i if is_rows else j
                    if n < at or n >= at + many:
                        n = n - many if n >= at else n
                        went.add((key, n, j) if is_rows else (key, i, n))
                if node[0] in ("rows", "columns") or tree != LOST:
                    found = set() if tree == LOST else places(tree, 0)
                    self.assertEqual(found, went)
                self.assertEqual(tree == LOST, went == set())

    def test_inserting_and_deleting_again(self):
        for node in every_node():
            for at, many, is_rows in ((0, 1, True), (7, 3, True), (1, 18, True), (0, 1, False), (4, 2, False)):
                tree = inserted(node, 0, 3, at, many, is_rows)
                last = {"cell": 3, "range": 5, "rows": 3, "columns": 3}[node[0]]
                size = 20 if is_rows else 10
                is_cut = tree == LOST
                if node[1] == 3 and node[0] == "range":
                    is_cut = is_cut or (node[4 if is_rows else 5] + many >= size and node[4 if is_rows else 5] >= at)
                elif node[1] == 3 and node[0] == ("rows" if is_rows else "columns"):
                    is_cut = is_cut or (node[last] + many >= size and node[last] >= at)
                if not is_cut:
                    self.assertEqual(deleted(tree, 0, 3, at, many, is_rows), node)


class Carried(Case):
    SOURCE = (0, 1, 1, 2, 3)
    TARGET = (7, 4, 2, 5, 4)

    def check_carried(self, own, own_after, source, target, table):
        self.check(lambda tree: carried(tree, own, own_after, source, target), table)

    def test_within_the_sheet(self):
        # B2:D3 goes to C5:E6.
        table = [
            ("B2", "C5"), ("$D$3", "$E$6"), ("B2:D3", "C5:E6"), ("B$2:C2", "C$5:D5"), ("A2", "A2"), ("B4", "B4"),
            ("A2:D3", "A2:D3"), ("B2:D4", "B2:D4"), ("B1:D3", "B1:D3"), ("B2:E3", "B2:E3"), ("C5", "#REF!"),
            ("C5:E6", "#REF!"), ("$E$6", "#REF!"), ("C5:E7", "C5:E7"), ("B5:E6", "B5:E6"), ("C5:F6", "C5:F6"),
            ("C4:E6", "C4:E6"), ("2:3", "2:3"), ("5:6", "5:6"), ("B:D", "B:D"), ("MAIN!B2", "MAIN!C5"),
            ("MAIN!C5", "#REF!"), ("PLAN!B2", "PLAN!B2"), ("PLAN!C5", "PLAN!C5"),
            ("SUM(B2,,LET(X,C5,B3))", "SUM(C5,,LET(X,#REF!,C6))")]
        self.check_carried(0, 0, (0, 1, 1, 2, 3), (0, 4, 2, 5, 4), table)
        named = [(before, behind) for before, behind in table if before.startswith(("MAIN", "PLAN"))]
        self.check_carried(None, None, (0, 1, 1, 2, 3), (0, 4, 2, 5, 4), named)
        self.check_carried(7, 7, (0, 1, 1, 2, 3), (0, 4, 2, 5, 4), named + [("B2", "B2"), ("C5", "C5")])

    def test_to_another_sheet(self):
        # B2:D3 of MAIN goes to C5:E6 of PLAN.
        own_of_source = [
            ("B2", "PLAN!C5"), ("MAIN!B2", "PLAN!C5"), ("B2:D3", "PLAN!C5:E6"), ("A1", "A1"), ("MAIN!A1", "MAIN!A1"),
            ("PLAN!C5", "#REF!"), ("PLAN!C4", "PLAN!C4"), ("C5", "C5"), ("2:3", "2:3"), ("PLAN!5:6", "PLAN!5:6"),
            ("B:B", "B:B"), ("X_1!B2", "X_1!B2"), ("X_1!C5", "X_1!C5")]
        self.check_carried(0, 0, self.SOURCE, self.TARGET, own_of_source)
        own_of_target = [
            ("MAIN!B2", "PLAN!C5"), ("B2", "B2"), ("C5", "#REF!"), ("PLAN!C5", "#REF!"), ("C4", "C4"),
            ("PLAN!C4", "PLAN!C4"), ("MAIN!2:3", "MAIN!2:3"), ("5:6", "5:6")]
        self.check_carried(7, 7, self.SOURCE, self.TARGET, own_of_target)
        others = [("MAIN!B2", "PLAN!C5"), ("PLAN!C5:D6", "#REF!"), ("PLAN!C5:D7", "PLAN!C5:D7"),
            ("MAIN!B:B", "MAIN!B:B")]
        self.check_carried(3, 3, self.SOURCE, self.TARGET, others + [("B2", "B2"), ("C5", "C5")])
        self.check_carried(None, None, self.SOURCE, self.TARGET, others)

    def test_formulas_that_are_carried(self):
        # Their sheet is another one behind: what had no key needs one, unless it means that sheet.
        self.check_carried(0, 7, self.SOURCE, self.TARGET, [
            ("B2", "C5"), ("$B$2:D3", "$C$5:E6"), ("A1", "MAIN!A1"), ("A1:B2", "MAIN!A1:B2"), ("2:3", "MAIN!2:3"),
            ("B:$C", "MAIN!B:$C"), ("MAIN!A1", "MAIN!A1"), ("MAIN!B2", "PLAN!C5"), ("PLAN!C5", "#REF!"),
            ("PLAN!A1", "PLAN!A1"), ("C5", "MAIN!C5"), ("X_1!B2", "X_1!B2"), ("PLAN!1:1", "PLAN!1:1"),
            ("B2+A1", "C5+MAIN!A1")])

    def test_areas_over_one_another(self):
        # A1:B2 goes to B2:C3.
        source, target = (0, 0, 0, 1, 1), (0, 1, 1, 2, 2)
        self.check_carried(0, 0, source, target, [
            ("A1", "B2"), ("B2", "C3"), ("A1:B2", "B2:C3"), ("B2:C3", "#REF!"), ("C3", "#REF!"), ("B3", "#REF!"),
            ("C2", "#REF!"), ("B1:C2", "B1:C2"), ("A1:C3", "A1:C3"), ("A3", "A3"), ("B2:B3", "#REF!")])
        self.check_carried(0, 0, target, source, [
            ("B2", "A1"), ("C3", "B2"), ("A1", "#REF!"), ("A1:B2", "#REF!"), ("B2:C3", "A1:B2"), ("A2", "#REF!")])

    def test_onto_itself(self):
        for node in every_node():
            self.assertEqual(carried(node, 0, 0, (3, 0, 0, 7, 4), (3, 0, 0, 7, 4)), node)
            self.assertEqual(carried(node, 3, 3, (3, 0, 0, 7, 4), (3, 0, 0, 7, 4)), node)

    def test_what_nodes_mean(self):
        for source, target in (((3, 0, 0, 7, 4), (3, 1, 1, 8, 5)), ((3, 1, 0, 1, 9), (0, 18, 0, 18, 9)),
                               ((0, 7, 4, 7, 4), (3, 19, 9, 19, 9)), ((3, 0, 0, 18, 8), (3, 1, 1, 19, 9))):
            inside = {(source[0], i, j) for i in range(source[1], source[3] + 1)
                      for j in range(source[2], source[4] + 1)}
            goal = {(target[0], i + target[1] - source[1], j + target[2] - source[2]) for _, i, j in inside}
            for node, own in itertools.product(every_node(), (0, 3)):
                own_after = target[0] if own == source[0] else own
                tree = carried(node, own, own_after, source, target)
                meant = places(node, own)
                if node[0] in ("cell", "range") and meant <= inside:
                    meant = {(target[0], i + target[1] - source[1], j + target[2] - source[2]) for _, i, j in meant}
                elif node[0] in ("cell", "range") and meant <= goal:
                    self.assertEqual(tree, LOST)
                    continue
                self.assertEqual(places(tree, own_after), meant)
                if node[1] is not None:
                    self.assertIsNotNone(tree[1])
                elif area_of(tree, own_after)[0] == own_after:
                    self.assertIsNone(tree[1])

    def test_names_of_arguments(self):
        self.assertEqual(carried(tree=read("B2"), own=0, own_after=0, source=self.SOURCE, target=self.TARGET),
                         read("PLAN!C5"))


class Dropped(Case):
    def test_dropped(self):
        self.check(lambda tree: dropped(tree, 7), [
            ("PLAN!A1", "#REF!"), ("PLAN!A1:B2", "#REF!"), ("PLAN!1:2", "#REF!"), ("PLAN!A:A", "#REF!"), ("A1", "A1"),
            ("X_1!A1", "X_1!A1"), ("SUM(PLAN!A1,A1,,MAIN!A:A)", "SUM(#REF!,A1,,MAIN!A:A)"), ("PLAN+1", "PLAN+1"),
            ("LET(X,PLAN!A1,-PLAN!B1)", "LET(X,#REF!,-#REF!)"),
            ("LAMBDA(X,PLAN!A1)(PLAN!A2)", "LAMBDA(X,#REF!)(#REF!)")])
        tree = read("PLAN!A1+A1")
        self.assertEqual(dropped(tree, 5), tree)
        self.assertEqual(dropped(tree=tree, key=0), tree)


class Sizes(Case):
    def test_never_more_nodes(self):
        tree = read("SUM(A1,A2:B3,LET(X,1:2,X),PLAN!A:B,LAMBDA(Y,A20)(3))")
        for other in (shifted(tree, 1, 0), inserted(tree, 0, 0, 0, 3, True), deleted(tree, 0, 0, 0, 3, True),
                      carried(tree, 0, 7, (0, 0, 0, 1, 1), (7, 0, 0, 1, 1)), dropped(tree, 7)):
            self.assertEqual(nodes(other), nodes(tree))
            self.assertEqual(depth(other), depth(tree))
            self.assertLessEqual(len(areas(other)), len(areas(tree)))


if __name__ == "__main__":
    unittest.main()
