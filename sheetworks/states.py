"""Workbooks saved as texts, without their history, and loaded again."""

from sheetworks.book import Book
from sheetworks.contents import Content, area_at, cells_in, is_block
from sheetworks.deeds import MOST_NAMES
from sheetworks.entries import check_signs, constant_text, entry_of, formula_of, name_tree_of
from sheetworks.errors import BadJournal, WorkError
from sheetworks.lines import FIRST_CHECK, checked
from sheetworks.names import is_name
from sheetworks.numbers import are_figures
from sheetworks.places import COLUMNS, ROWS
from sheetworks.signs import capital
from sheetworks.structure import MOST_SHEETS
from sheetworks.values import MOST_MEMBERS
from sheetworks.writing import write_formula

FIRST_LINE = "sheetworks 1\n"
MOST_FIGURES = 9


def saved(book):
    """The text of a workbook."""
    return text_of_content(book.content, book.next_key)


def text_of_content(content, next_key):
    """The text of a content, and of the key that the next new sheet gets."""
    lines = [FIRST_LINE]
    for key, name in content.sheet_row:
        lines.append(f"sheet {key} {name}\n")
        lines.extend([place_line(content, place) for place in told_on_sheet(content, key)])
    for word in sorted(content.name_trees):
        told = write_formula(content.name_trees[word], content.sheet_row)
        lines.append(f"name {word} {told}\n")
    lines.append(f"next {next_key}\n")
    ahead = "".join(lines)
    return ahead + f"end {checked(FIRST_CHECK, ahead)}\n"


def told_on_sheet(content, key):
    """The places on a sheet at which a constant or formula stands, by rows and columns."""
    places = list(content.constants) + list(content.formulas)
    return sorted([place for place in places if place[0] == key])


def place_line(content, place):
    """The line of a constant, formula or block."""
    _, row, column = place
    if place in content.constants:
        return f"cell {row} {column} {constant_text(content.constants[place])}\n"
    formula = content.formulas[place]
    told = write_formula(formula[0], content.sheet_row)
    if is_block(formula):
        return f"block {row} {column} {formula[1]} {formula[2]} {told}\n"
    return f"cell {row} {column} {told}\n"


def loaded(text):
    """The workbook of a text that saved tells of some workbook."""
    try:
        content, next_key = content_told(text)
    except WorkError:
        raise BadJournal(0)
    if text_of_content(content, next_key) != text:
        raise BadJournal(0)
    book = Book()
    book.start(content, next_key)
    return book


def content_told(text):
    """The content that the lines of a text tell, and the next key.

    What is told in another way than saved tells it may be let through here.
    """
    lines = text.split("\n")
    for line in lines:
        check_signs(line, len(line))
    parts = [line.partition(" ") for line in lines]
    sheets = [sheet_told(rest) for word, _, rest in parts if word == "sheet"]
    check_sheets(sheets)
    names = [name_told(rest, sheets) for word, _, rest in parts if word == "name"]
    if len(names) > MOST_NAMES:
        raise BadJournal(0)
    content = Content(sheets, {word: tree for word, tree in names})
    fill(content, parts)
    keys = [integer(rest) for word, _, rest in parts if word == "next"]
    if len(keys) != 1 or keys[0] <= max([0] + [key for key, _ in sheets]):
        raise BadJournal(0)
    return content, keys[0]


def integer(told):
    """The integer that figures tell, as many as a key may have."""
    if not are_figures(told, MOST_FIGURES):
        raise BadJournal(0)
    return int(told)


def sheet_told(rest):
    """(key, name) of a sheet's line."""
    key, _, name = rest.partition(" ")
    if not is_name(name):
        raise BadJournal(0)
    return (integer(key), capital(name))


def check_sheets(sheets):
    """Raises BadJournal unless these can be the sheets of a workbook."""
    keys = {key: True for key, _ in sheets}
    names = {name: True for _, name in sheets}
    many = len(sheets)
    if many < 1 or many > MOST_SHEETS or len(keys) != many or len(names) != many:
        raise BadJournal(0)


def name_told(rest, sheets):
    """(word, tree) of a name's line."""
    word, _, told = rest.partition(" ")
    if not is_name(word):
        raise BadJournal(0)
    return (capital(word), name_tree_of(told, sheets))


def fill(content, parts):
    """Puts what the lines of cells and blocks tell into the sheets ahead of them."""
    key = None
    for word, _, rest in parts:
        if word == "sheet":
            key = sheet_told(rest)[0]
        if word == "cell":
            fill_cell(content, key, rest)
        if word == "block":
            fill_block(content, key, rest)


def fill_cell(content, key, rest):
    """Puts what the line of a cell tells."""
    row, _, behind = rest.partition(" ")
    column, _, told = behind.partition(" ")
    area = free_area(content, key, [row, column, "1", "1"])
    constant, tree = entry_of(told, content.sheet_row)
    if tree is None:
        content.put_constant(area[:3], constant)
    else:
        content.put_formula(area[:3], (tree, 1, 1))


def fill_block(content, key, rest):
    """Puts what the line of a block tells."""
    numbers = rest.split(" ")[:4]
    if len(numbers) < 4:
        raise BadJournal(0)
    area = free_area(content, key, numbers)
    height, width = int(numbers[2]), int(numbers[3])
    if height * width < 2 or height * width > MOST_MEMBERS:
        raise BadJournal(0)
    told = rest[len(" ".join(numbers)) + 1:]
    content.put_formula(area[:3], (formula_of(told, content.sheet_row), height, width))


def free_area(content, key, told):
    """The area of a row, column, height and width as told; all of its cells have to be free."""
    row, column, height, width = [integer(part) for part in told]
    if key is None or height < 1 or row + height > ROWS or width < 1 or column + width > COLUMNS:
        raise BadJournal(0)
    area = area_at(key, row, column, height, width)
    for cell in cells_in(area):
        if cell in content.constants or cell in content.owners:
            raise BadJournal(0)
    return area
