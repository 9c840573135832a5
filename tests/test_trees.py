"""Tests of [18] and [21]: nodes, depth and areas of trees."""

import itertools
import unittest

from sheetworks.trees import areas, depth, nodes

ONE = ("number", 1000000)
EMPTY = ("empty",)
X = ("name", "X")
A1 = ("cell", None, 0, 0, False, False)
B2 = ("cell", 3, 1, 1, True, False)
RANGE = ("range", None, 0, 0, 3, 2, False, True, False, False)
ROWS = ("rows", None, 1, 4, True, True)
COLUMNS = ("columns", 0, 2, 9, False, True)
ARRAY = ("array", ((("number", 1), ("text", "a")), (("truth", True), ("error", "NA"))))
LEAVES = [ONE, ("text", "a"), ("truth", False), ("error", "REF"), EMPTY, X, A1, B2, RANGE, ROWS,
          COLUMNS, ARRAY]


def sign(tree):
    return ("sign", "-", tree)


def binary(left, right):
    return ("binary", "+", left, right)


def call(*arguments):
    return ("call", "SUM", arguments)


def let(*trees):
    *bound, body = trees
    return ("let", tuple([f"W{k}" for k in range(len(bound))]), tuple(bound), body)


def function(body, *words):
    return ("lambda", words, body)


def applied(tree, *arguments):
    return ("apply", tree, arguments)


def signs(many, tree):
    """A tree behind so many signs."""
    for _ in range(many):
        tree = sign(tree)
    return tree


def terms(many):
    """So many numbers added from the left."""
    tree = ONE
    for _ in range(many - 1):
        tree = binary(tree, ONE)
    return tree


# Each nest with its number of nodes and its depth, by the words of [21].
NESTS = [
    (sign(ONE), 2, 2), (binary(ONE, A1), 3, 2), (call(), 1, 1), (call(ONE), 2, 2),
    (call(A1, B2, RANGE), 4, 2), (call(EMPTY, ONE), 3, 2), (call(EMPTY, EMPTY), 3, 2),
    (let(ONE, X), 3, 2), (let(ONE, A1, X), 4, 2), (let(ONE, EMPTY), 3, 2),
    (let(EMPTY, binary(X, X)), 5, 3), (let(sign(sign(ONE)), X), 5, 4),
    (function(ONE), 2, 2), (function(X, "X"), 2, 2), (function(X, "X", "Y", "Z"), 2, 2),
    (function(EMPTY, "X"), 2, 2), (function(binary(X, X), "X"), 4, 3),
    (applied(X), 2, 2), (applied(X, ONE), 3, 2), (applied(X, EMPTY, ONE), 4, 2),
    (applied(function(X, "X"), ONE), 4, 3), (applied(applied(X), ONE), 4, 3),
    (applied(X, applied(X, applied(X))), 6, 4),
    (binary(sign(ONE), ONE), 4, 3), (binary(ONE, sign(ONE)), 4, 3),
    (binary(call(ARRAY), binary(RANGE, ARRAY)), 6, 3), (call(sign(ARRAY), ROWS), 4, 3),
    (call(ROWS, sign(ARRAY)), 4, 3), (call(let(ONE, call(function(X, "X")))), 6, 5),
]


class Counts(unittest.TestCase):
    def test_leaves(self):
        for tree in LEAVES:
            self.assertEqual((nodes(tree), depth(tree)), (1, 1), tree)

    def test_nests(self):
        for tree, many, deep in NESTS:
            self.assertEqual((nodes(tree), depth(tree)), (many, deep), tree)

    def test_each_leaf_in_each_nest(self):
        for leaf in LEAVES:
            for tree, many in [(sign(leaf), 2), (binary(leaf, leaf), 3), (call(leaf), 2),
                               (let(leaf, leaf), 3), (function(leaf, "X"), 2),
                               (applied(leaf, leaf), 3)]:
                self.assertEqual((nodes(tree), depth(tree)), (many, 2), tree)

    def test_each_place_counts(self):
        deep = signs(4, ONE)
        for many in range(1, 17):
            for at in range(many):
                arguments = [ONE] * many
                arguments[at] = deep
                self.assertEqual(nodes(call(*arguments)), many + 5)
                self.assertEqual(depth(call(*arguments)), 6)
                self.assertEqual(nodes(let(*arguments)), many + 5)
                self.assertEqual(depth(let(*arguments)), 6)
                self.assertEqual(nodes(applied(*arguments)), many + 5)
                self.assertEqual(depth(applied(*arguments)), 6)

    def test_arrays_are_one_node(self):
        row = tuple([("number", k) for k in range(16)])
        for rows in [(row,), (row, row, row, row), ((("number", 1),),)]:
            self.assertEqual((nodes(("array", rows)), depth(("array", rows))), (1, 1))

    def test_trees_that_are_alike_count_each_time(self):
        tree = binary(A1, A1)
        self.assertEqual(nodes(binary(tree, tree)), 7)

    def test_sixty_four_nodes_and_beyond(self):
        self.assertEqual(nodes(call(*[terms(2)] * 15, *[ONE] * 18)), 64)
        self.assertEqual(nodes(call(*[ONE] * 63)), 64)
        self.assertEqual(nodes(call(*[ONE] * 64)), 65)
        self.assertEqual(nodes(terms(32)), 63)
        self.assertEqual(nodes(sign(terms(32))), 64)
        self.assertEqual(nodes(terms(33)), 65)

    def test_sixteen_deep_and_beyond(self):
        for many in (14, 15, 16, 17):
            self.assertEqual(depth(signs(many, ONE)), many + 1)
            self.assertEqual(nodes(signs(many, ONE)), many + 1)
            self.assertEqual(depth(terms(many)), many)

    def test_very_deep(self):
        # A reader asks these of trees that are as deep as a text is long.
        self.assertEqual((nodes(terms(20000)), depth(terms(20000))), (39999, 20000))
        tree = X
        for _ in range(20000):
            tree = applied(tree, A1)
        self.assertEqual((nodes(tree), depth(tree)), (40001, 20001))
        self.assertEqual(areas(tree), (A1,) * 20000)

    def test_by_name(self):
        self.assertEqual((nodes(tree=ONE), depth(tree=ONE), areas(tree=A1)), (1, 1, (A1,)))

    def test_kinds(self):
        self.assertIs(nodes(ONE).__class__, int)
        self.assertIs(depth(ONE).__class__, int)


class Areas(unittest.TestCase):
    FOUR = (A1, RANGE, ROWS, COLUMNS)

    def test_alone(self):
        for tree in (A1, B2, RANGE, ROWS, COLUMNS):
            self.assertEqual(areas(tree), (tree,))

    def test_none(self):
        for tree in (ONE, ("text", "A1"), ("truth", True), ("error", "REF"), EMPTY, X, ARRAY, call(),
                     function(X, "X"), sign(ONE)):
            self.assertEqual(areas(tree), ())

    def test_from_the_left(self):
        for a, b, c in itertools.permutations([A1, RANGE, ROWS, COLUMNS, B2], 3):
            self.assertEqual(areas(binary(a, b)), (a, b))
            self.assertEqual(areas(binary(binary(a, b), c)), (a, b, c))
            self.assertEqual(areas(binary(a, binary(b, c))), (a, b, c))
            self.assertEqual(areas(call(a, b, c)), (a, b, c))
            self.assertEqual(areas(let(a, b, c)), (a, b, c))
            self.assertEqual(areas(applied(a, b, c)), (a, b, c))
            self.assertEqual(areas(applied(function(a, "X"), b, c)), (a, b, c))
            self.assertEqual(areas(sign(function(call(ONE, sign(a), let(b, X, c)), "Y"))), (a, b, c))
            self.assertEqual(areas(call(EMPTY, a, ARRAY, call(b), X, c)), (a, b, c))

    def test_alike_as_often_as_they_stand(self):
        self.assertEqual(areas(binary(A1, A1)), (A1, A1))
        self.assertEqual(areas(call(A1, B2, A1, call(B2, A1))), (A1, B2, A1, B2, A1))
        self.assertEqual(areas(let(ROWS, ROWS, ROWS)), (ROWS, ROWS, ROWS))

    def test_as_they_stand(self):
        for marks in itertools.product((False, True), repeat=2):
            for sheet in (None, 0, 7):
                for tree in [("cell", sheet, 19, 9, *marks), ("rows", sheet, 0, 19, *marks),
                             ("columns", sheet, 0, 9, *marks)]:
                    self.assertEqual(areas(sign(tree)), (tree,))

    def test_a_tuple(self):
        for tree in (ONE, A1, call(*self.FOUR)):
            self.assertIs(areas(tree).__class__, tuple)
        self.assertEqual([node.__class__ for node in areas(call(*self.FOUR))], [tuple] * 4)


if __name__ == "__main__":
    unittest.main()
