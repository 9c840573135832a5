"""The library functions: which there are, and how many arguments they take."""

# Each word's least and greatest number of arguments.
COUNTS = {
    "ABS": (1, 1), "SIGN": (1, 1), "INT": (1, 1), "TRUNC": (1, 1), "ROUND": (2, 2), "MOD": (2, 2),
    "QUOTIENT": (2, 2), "POWER": (2, 2), "SQRT": (1, 1), "GCD": (2, 2), "LCM": (2, 2),

    "SUM": (1, 16), "PRODUCT": (1, 16), "MIN": (1, 16), "MAX": (1, 16), "AVERAGE": (1, 16),
    "MEDIAN": (1, 16), "COUNT": (1, 16), "COUNTA": (1, 16),
    "COUNTBLANK": (1, 1), "LARGE": (2, 2), "SMALL": (2, 2), "RANK": (2, 2), "SUMPRODUCT": (1, 4),
    "COUNTIF": (2, 2), "SUMIF": (2, 3),

    "IF": (2, 3), "IFS": (2, 16), "SWITCH": (3, 16), "CHOOSE": (2, 16), "AND": (1, 16),
    "OR": (1, 16), "XOR": (1, 16), "NOT": (1, 1), "IFERROR": (2, 2), "IFNA": (2, 2),

    "ISBLANK": (1, 1), "ISNUMBER": (1, 1), "ISTEXT": (1, 1), "ISLOGICAL": (1, 1),
    "ISERROR": (1, 1), "ISNA": (1, 1), "ERRNUMBER": (1, 1), "ISREF": (1, 1), "NA": (0, 0),
    "ROW": (1, 1), "COLUMN": (1, 1), "ROWS": (1, 1), "COLUMNS": (1, 1),

    "LEN": (1, 1), "LEFT": (1, 2), "RIGHT": (1, 2), "MID": (3, 3), "FIND": (2, 3),
    "SUBSTITUTE": (3, 4), "REPLACE": (4, 4), "REPT": (2, 2), "UPPER": (1, 1), "LOWER": (1, 1),
    "TRIM": (1, 1), "EXACT": (2, 2), "VALUE": (1, 1), "CODE": (1, 1),
    "CONCAT": (1, 16), "TEXTJOIN": (3, 16), "TEXTSPLIT": (2, 3),

    "INDEX": (2, 3), "MATCH": (2, 3), "XLOOKUP": (3, 4), "VLOOKUP": (3, 4), "OFFSET": (3, 5),
    "INDIRECT": (1, 1),

    "SEQUENCE": (1, 4), "TRANSPOSE": (1, 1), "SORT": (1, 3), "SORTBY": (2, 3), "UNIQUE": (1, 1),
    "FILTER": (2, 3), "TAKE": (2, 3), "DROP": (2, 3), "VSTACK": (1, 8), "HSTACK": (1, 8),
    "CHOOSEROWS": (2, 8), "CHOOSECOLS": (2, 8), "EXPAND": (3, 4), "TOCOL": (1, 1),
    "WRAPROWS": (2, 2), "MMULT": (2, 2), "MUNIT": (1, 1),

    "MAP": (2, 5), "REDUCE": (3, 3), "SCAN": (3, 3), "MAKEARRAY": (3, 3), "BYROW": (2, 2),
    "BYCOL": (2, 2),
}
