"""References that move: what becomes of a formula's tree when cells do.

Each of these working functions gets a node that means an area and tells the
node that it becomes; span functions tell None where nothing is left.
"""

from sheetworks.places import COLUMNS, ROWS, column_span, node_of, ordered, row_span
from sheetworks.trees import AREAS

LOST = ("error", "REF")


def area_of(node, own):
    """The area that a cell, range, rows or columns of a formula on the sheet own means."""
    key = own if node[1] is None else node[1]
    rows = row_span(node)
    columns = column_span(node)
    top, bottom = (0, ROWS - 1) if rows is None else rows[:2]
    left, right = (0, COLUMNS - 1) if columns is None else columns[:2]
    return (key, top, left, bottom, right)


def rebuilt(tree, deed):
    """The tree with what deed makes of each node that means an area."""
    kind = tree[0]
    if kind in AREAS:
        return deed(tree)
    if kind in ("sign", "lambda"):
        return (kind, tree[1], rebuilt(tree[2], deed))
    if kind == "binary":
        return (kind, tree[1], rebuilt(tree[2], deed), rebuilt(tree[3], deed))
    if kind == "call":
        return (kind, tree[1], all_rebuilt(tree[2], deed))
    if kind == "let":
        return (kind, tree[1], all_rebuilt(tree[2], deed), rebuilt(tree[3], deed))
    if kind == "apply":
        return (kind, rebuilt(tree[1], deed), all_rebuilt(tree[2], deed))
    return tree


def all_rebuilt(trees, deed):
    """Several trees, rebuilt."""
    return tuple([rebuilt(tree, deed) for tree in trees])


def with_spans(node, rows_deed, columns_deed):
    """The node with its spans moved; lost if one of them is."""
    rows = row_span(node)
    columns = column_span(node)
    new_rows = None if rows is None else rows_deed(rows)
    new_columns = None if columns is None else columns_deed(columns)
    if (rows is not None and new_rows is None) or (columns is not None and new_columns is None):
        return LOST
    return node_of(node[0], node[1], new_rows, new_columns)


def unmoved(span):
    """The span itself."""
    return span


def shifted(tree, down, right):
    """The tree that a formula gets when it is copied so far."""
    def deed(node):
        return with_spans(node, lambda span: shifted_span(span, down, ROWS),
                          lambda line: shifted_span(line, right, COLUMNS))
    return rebuilt(tree, deed)


def shifted_span(span, many, size):
    """A span whose numbers that are not fixed grow by many."""
    low, high, fixed_low, fixed_high = span
    new_low = low if fixed_low else low + many
    new_high = high if fixed_high else high + many
    if min(new_low, new_high) < 0 or max(new_low, new_high) >= size:
        return None
    return ordered((new_low, new_high, fixed_low, fixed_high))


def along(node, own, key, is_rows, deed):
    """The node with its rows (columns) moved, if it means some of the sheet with this key."""
    sheet = own if node[1] is None else node[1]
    if sheet != key:
        return node
    if is_rows:
        return with_spans(node, deed, unmoved)
    return with_spans(node, unmoved, deed)


def inserted(tree, own, key, at, many, is_rows):
    """The tree when many rows (columns) come in ahead of at in the sheet with this key."""
    size = ROWS if is_rows else COLUMNS

    def deed(node):
        return along(node, own, key, is_rows, lambda span: inserted_span(span, at, many, size))
    return rebuilt(tree, deed)


def inserted_span(span, at, many, size):
    """A span when many come in ahead of at; its greater end stays on the sheet."""
    low, high, fixed_low, fixed_high = span
    new_low = low + many if low >= at else low
    new_high = high + many if high >= at else high
    if new_low >= size:
        return None
    return (new_low, min(new_high, size - 1), fixed_low, fixed_high)


def deleted(tree, own, key, at, many, is_rows):
    """The tree when many rows (columns) from at on go from the sheet with this key."""
    def deed(node):
        return along(node, own, key, is_rows, lambda span: deleted_span(span, at, many))
    return rebuilt(tree, deed)


def deleted_span(span, at, many):
    """A span when many from at on go."""
    low, high, fixed_low, fixed_high = span
    new_low = behind_deletion(low, at, many, at)
    new_high = behind_deletion(high, at, many, at - 1)
    if new_low > new_high:
        return None
    return (new_low, new_high, fixed_low, fixed_high)


def behind_deletion(number, at, many, instead):
    """What a number becomes when many from at on go; instead, if it goes itself."""
    if number < at:
        return number
    if number < at + many:
        return instead
    return number - many


def carried(tree, own, own_after, source, target):
    """The tree when the cells of the area source are cut and put at the area target."""
    return rebuilt(tree, lambda node: carried_node(node, own, own_after, source, target))


def carried_node(node, own, own_after, source, target):
    """A node when the cells of the area source are cut and put at the area target."""
    area = area_of(node, own)
    key = area[0]
    moved = node
    if node[0] in ("cell", "range"):
        if lies_in(area, source):
            key = target[0]
            moved = carried_places(node, target[1] - source[1], target[2] - source[2])
        elif lies_in(area, target):
            return LOST
    # A node without a key needs one as soon as it means another sheet than its formula's.
    sheet = None if node[1] is None and key == own_after else key
    return (moved[0], sheet, *moved[2:])


def lies_in(area, other):
    """Whether an area lies wholly in another one."""
    key, top, left, bottom, right = area
    return (key == other[0] and top >= other[1] and left >= other[2]
            and bottom <= other[3] and right <= other[4])


def carried_places(node, down, right):
    """A cell or range whose numbers grow, also the fixed ones."""
    top, bottom, *row_marks = row_span(node)
    left, last, *column_marks = column_span(node)
    return node_of(node[0], node[1], (top + down, bottom + down, *row_marks),
                   (left + right, last + right, *column_marks))


def dropped(tree, key):
    """The tree when the sheet with this key goes."""
    return rebuilt(tree, lambda node: LOST if node[1] == key else node)
