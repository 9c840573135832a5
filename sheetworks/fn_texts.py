"""Library functions over texts."""

from sheetworks.flat import shown_texts
from sheetworks.numbers import SCALE
from sheetworks.signs import capital, small
from sheetworks.values import MOST_SIGNS, array, number_of, text_of

WRONG = ("error", "VALUE")


def whole_number(n):
    """The number of an integer."""
    return number_of(n * SCALE)


def length(s):
    """LEN"""
    return whole_number(len(s))


def first_signs(s, many=1):
    """LEFT"""
    if many < 0:
        return WRONG
    return text_of(s[:many])


def last_signs(s, many=1):
    """RIGHT"""
    if many < 0:
        return WRONG
    return text_of(s[max(len(s) - many, 0):])


def middle_signs(s, first, many):
    """MID"""
    if first < 1 or many < 0:
        return WRONG
    return text_of(s[first - 1:first - 1 + many])


def place_of(part, s, first=1):
    """FIND"""
    if first < 1:
        return WRONG
    at = s.find(part, first - 1)
    if at < 0:
        return WRONG
    return whole_number(at + 1)


def each_replaced(s, part, instead):
    """SUBSTITUTE of each part"""
    if part == "":
        return text_of(s)
    return text_of(s.replace(part, instead))


def one_replaced(s, part, instead, which):
    """SUBSTITUTE of one part alone"""
    if which < 1:
        return WRONG
    if part == "":
        return text_of(s)
    pieces = s.split(part)
    if which >= len(pieces):
        return text_of(s)
    return text_of(part.join(pieces[:which]) + instead + part.join(pieces[which:]))


def signs_replaced(s, first, many, instead):
    """REPLACE"""
    if first < 1 or many < 0:
        return WRONG
    return text_of(s[:first - 1] + instead + s[first - 1 + many:])


def repetition(s, many):
    """REPT"""
    if many < 0 or len(s) * many > MOST_SIGNS:
        return WRONG
    return text_of(s * many)


def in_capitals(s):
    """UPPER"""
    return text_of(capital(s))


def in_small_letters(s):
    """LOWER"""
    return text_of(small(s))


def trimmed(s):
    """TRIM"""
    return text_of(" ".join([part for part in s.split(" ") if part != ""]))


def are_same(s, t):
    """EXACT"""
    return ("truth", s == t)


def number_in(m):
    """VALUE"""
    return number_of(m)


def first_code(s):
    """CODE"""
    if s == "":
        return WRONG
    return whole_number(ord(s[0]))


def substitute(s, part, instead, *which):
    """SUBSTITUTE"""
    if len(which) == 0:
        return each_replaced(s, part, instead)
    return one_replaced(s, part, instead, which[0])


TEXT_DEEDS = {
    "LEN": length, "LEFT": first_signs, "RIGHT": last_signs, "MID": middle_signs,
    "FIND": place_of, "SUBSTITUTE": substitute, "REPLACE": signs_replaced, "REPT": repetition,
    "UPPER": in_capitals, "LOWER": in_small_letters, "TRIM": trimmed, "EXACT": are_same,
    "VALUE": number_in, "CODE": first_code,
}
TEXT_KINDS = {
    "LEN": ("text",), "LEFT": ("text", "whole"), "RIGHT": ("text", "whole"),
    "MID": ("text", "whole", "whole"), "FIND": ("text", "text", "whole"),
    "SUBSTITUTE": ("text", "text", "text", "whole"),
    "REPLACE": ("text", "whole", "whole", "text"), "REPT": ("text", "whole"),
    "UPPER": ("text",), "LOWER": ("text",), "TRIM": ("text",), "EXACT": ("text", "text"),
    "VALUE": ("number",), "CODE": ("text",),
}


def concat(call, trees):
    """CONCAT"""
    return text_of("".join(shown_texts(call, trees)))


def text_join(call, trees):
    """TEXTJOIN"""
    between = call.text(trees[0])
    leaves_out = call.truth(trees[1])
    texts = shown_texts(call, trees[2:])
    return text_of(between.join([s for s in texts if s != "" or not leaves_out]))


def text_split(call, trees):
    """TEXTSPLIT"""
    s = call.text(trees[0])
    between = call.text(trees[1])
    has_rows = call.given(trees, 2)
    below = call.text(trees[2]) if has_rows else ""
    if between == "" or (has_rows and below == ""):
        return WRONG
    lines = s.split(below) if has_rows else [s]
    rows = [line.split(between) for line in lines]
    wide = max([len(row) for row in rows])
    members = []
    for row in rows:
        members.extend([text_of(part) for part in row])
        members.extend([("error", "NA")] * (wide - len(row)))
    return array(len(rows), wide, members)


TEXT_CALLS = {"CONCAT": concat, "TEXTJOIN": text_join, "TEXTSPLIT": text_split}
