"""The trees of formulas: how many nodes, how deep, which areas.

A tree is a tuple that begins with the kind of its node:
("number", m), ("text", s), ("truth", b), ("error", word), ("empty",),
("cell", sheet, row, column, fixed_row, fixed_column),
("range", sheet, top, left, bottom, right, and four fixed ones likewise),
("rows", sheet, top, bottom, fixed_top, fixed_bottom),
("columns", sheet, left, right, fixed_left, fixed_right),
("name", word), ("sign", sign, tree), ("binary", operator, left, right),
("call", word, arguments), ("let", words, trees, body), ("lambda", words, body),
("apply", tree, arguments), ("array", rows of scalars).

No function here calls itself, since a tree may be deeper than calls may nest.
"""

AREAS = ("cell", "range", "rows", "columns")


def parts(tree):
    """The trees that stand right in a tree, from the left."""
    kind = tree[0]
    if kind in ("sign", "lambda"):
        return (tree[2],)
    if kind == "binary":
        return (tree[2], tree[3])
    if kind == "call":
        return tree[2]
    if kind == "let":
        return (*tree[2], tree[3])
    if kind == "apply":
        return (tree[1], *tree[2])
    return ()


def walked(tree):
    """All nodes of a tree from the left, each one ahead of those in it."""
    found = []
    waiting = [tree]
    while waiting:
        node = waiting.pop()
        found.append(node)
        waiting.extend(parts(node)[::-1])
    return found


def nodes(tree):
    """How many nodes a tree has; an array is one."""
    return len(walked(tree))


def depth(tree):
    """How deep a tree is; one without trees in it is 1 deep."""
    deep = 0
    level = [tree]
    while level:
        deep += 1
        level = [part for node in level for part in parts(node)]
    return deep


def areas(tree):
    """The nodes of a tree that mean areas, from the left."""
    return tuple([node for node in walked(tree) if node[0] in AREAS])
