"""The tokens of a formula's text.

A token is (kind, at, end, what): its kind, its first place, the place behind
it, and what it tells. Each function whose name ends in _end tells the place
behind something that begins at a place, or None where there is no such thing.
"""

from sheetworks.errors import Fault
from sheetworks.numbers import read_amount
from sheetworks.signs import capital, is_figure, is_letter
from sheetworks.values import ERRORS, MOST_SIGNS

LAST_COLUMN = "J"
LAST_ROW = 20
MOST_SIGNS_OF_WORD = 12
# Those of two signs stand first, since the longest one that fits is taken.
SIGNS = ("<>", "<=", ">=", "+", "-", "*", "/", "^", "&", "=", "<", ">",
         "(", ")", "{", "}", ",", ";", ":", "!")


def blanks_end(text, at):
    """The place of the first sign from here on that is no blank."""
    end = at
    while text[end:end + 1] == " ":
        end += 1
    return end


def figures_end(upper, at):
    """The place behind all figures that stand here; there may be none."""
    end = at
    while is_figure(upper[end:end + 1]):
        end += 1
    return end


def mark_end(upper, at):
    """The place behind the $ that may stand here."""
    return at + 1 if upper[at:at + 1] == "$" else at


def row_end(upper, at):
    """Behind a row with or without a $."""
    first = mark_end(upper, at)
    end = figures_end(upper, first)
    figures = upper[first:end]
    # The length goes ahead, since Python does not read figures of any length.
    if figures == "" or figures[0] == "0" or len(figures) > 2 or int(figures) > LAST_ROW:
        return None
    return end


def column_end(upper, at):
    """Behind the letter of a column with or without a $."""
    first = mark_end(upper, at)
    if "A" <= upper[first:first + 1] <= LAST_COLUMN:
        return first + 1
    return None


def pair_end(part_end, upper, at):
    """Behind two such parts with a colon between."""
    middle = part_end(upper, at)
    if middle is None or upper[middle:middle + 1] != ":":
        return None
    return part_end(upper, middle + 1)


def makes_word(sign):
    """Whether what looks like a place is none with this sign right behind it."""
    return is_letter(sign) or is_figure(sign) or sign in ("_", "(")


def error_end(upper, at):
    """Behind an error; the one of circles can not be written."""
    for word in ERRORS:
        error = "#" + word + "!"
        if word != "CIRC" and upper.startswith(error, at):
            return at + len(error)
    return None


def rows_end(upper, at):
    """Behind rows."""
    return pair_end(row_end, upper, at)


def number_end(upper, at):
    """Behind a number; a point belongs to it only with figures behind it."""
    end = figures_end(upper, at)
    if end == at:
        return None
    if upper[end:end + 1] == "." and is_figure(upper[end + 1:end + 2]):
        return figures_end(upper, end + 1)
    return end


def cell_end(upper, at):
    """Behind a cell."""
    letter_end = column_end(upper, at)
    if letter_end is None:
        return None
    end = row_end(upper, letter_end)
    if end is None or makes_word(upper[end:end + 1]):
        return None
    return end


def columns_end(upper, at):
    """Behind columns; a $ behind them is that of a cell's row."""
    end = pair_end(column_end, upper, at)
    if end is None or upper[end:end + 1] == "$" or makes_word(upper[end:end + 1]):
        return None
    return end


def goes_on_word(sign):
    """Whether a sign can stand in a word behind its first letter."""
    return is_letter(sign) or is_figure(sign) or sign in ("_", ".")


def word_end(upper, at):
    """Behind a word."""
    if not is_letter(upper[at:at + 1]):
        return None
    end = at + 1
    while goes_on_word(upper[end:end + 1]):
        end += 1
    return end


def sign_end(upper, at):
    """Behind a sign."""
    for sign in SIGNS:
        if upper.startswith(sign, at):
            return at + len(sign)
    return None


# The kinds but text, in the sequence in which they are tried.
ENDS = {"error": error_end, "rows": rows_end, "number": number_end, "cell": cell_end,
        "columns": columns_end, "word": word_end, "sign": sign_end}


def text_token(text, at):
    """The text that begins at this quote."""
    close = text.find('"', at + 1)
    # A quote right behind which another one stands is a part of the text.
    while close >= 0 and text[close + 1:close + 2] == '"':
        close = text.find('"', close + 2)
    if close < 0:
        raise Fault(len(text))
    what = text[at + 1:close].replace('""', '"')
    if len(what) > MOST_SIGNS:
        raise Fault(at)
    return ("text", at, close + 1, what)


def is_at_fault(kind, what):
    """Whether a token has the form of its kind, but is greater than may be."""
    if kind == "number":
        return read_amount(what) is None
    return kind == "word" and len(what) > MOST_SIGNS_OF_WORD


def token_at(text, upper, at):
    """The token whose first sign stands here; upper is the capital form of text."""
    if text[at:at + 1] == '"':
        return text_token(text, at)
    for kind in ENDS:
        kind_end = ENDS[kind]
        end = kind_end(upper, at)
        if end is not None:
            what = upper[at:end]
            if is_at_fault(kind, what):
                raise Fault(at)
            return (kind, at, end, what)
    raise Fault(at)


def tokens(text):
    """The tokens of a formula's text, which begins with =."""
    upper = capital(text)
    found = []
    at = blanks_end(text, 1)
    while at < len(text):
        token = token_at(text, upper, at)
        found.append(token)
        at = blanks_end(text, token[2])
    return tuple(found)
