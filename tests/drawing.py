"""Drawn deeds for drawn histories."""

class Drawer:
    """Draws deeds for a book; most stay near its first cells, so that they meet."""

    def __init__(self, draw, rows=6, columns=4, formulas=0.6):
        self.draw = draw
        self.rows, self.columns, self.formulas = rows, columns, formulas

    def cell(self):
        draw = self.draw
        if draw.random() < 0.03:
            return "J20"
        mark = lambda: "$" if draw.random() < 0.2 else ""
        return f"{mark()}{'ABCD'[draw.randrange(self.columns)]}{mark()}{1 + draw.randrange(self.rows)}"

    def area(self):
        draw = self.draw
        way = draw.randrange(10)
        area = f"{self.cell()}:{self.cell()}"
        if way == 0:
            area = f"{draw.randrange(1, 7)}:{draw.randrange(1, 7)}"
        if way == 1:
            area = f"{draw.choice('ABCD')}:{draw.choice('ABCD')}"
        if way == 2:
            area = f"{draw.choice(['MAIN', 'P', 'Q'])}!{area}"
        return area

    def part(self, deep=2):
        draw = self.draw
        if deep == 0:
            return draw.choice([str(draw.randrange(4)), self.cell(), self.cell(), self.cell(), "X", "Y", '"t"',
                                f"MAIN!{self.cell()}", f"P!{self.cell()}"])
        part = [self.part(deep - 1) for _ in range(3)]
        return draw.choice([
            f"{part[0]}+{part[1]}", f"IF({part[0]}>1,{part[1]},{part[2]})", f"IF({part[0]},{part[1]})",
            f"SUM({self.area()})", f"IFERROR({part[0]},{part[1]})", f"CHOOSE({part[0]},{part[1]},{part[2]})",
            f"INDEX({self.area()},{part[0]},{part[1]})", f'INDIRECT("{self.cell()}")',
            f'INDIRECT("{draw.choice(["P", "Q", "MAIN"])}!{self.cell()}")', f'INDIRECT("A"&{part[0]})',
            f"OFFSET({self.cell()},{draw.randrange(3)},{draw.randrange(2)})", f"COUNT({self.area()})",
            f"{self.area()}", f"SEQUENCE({draw.randrange(1, 4)},{draw.randrange(1, 3)})", f"ROW({self.cell()})",
            f"LET(Z,{part[0]},Z+{part[1]})", f"LAMBDA(Z,Z*2)({part[0]})", f"MAX({self.cell()},{part[0]})",
            f"ISERROR({part[0]})", f"MATCH({part[0]},{self.area()},0)", f"{self.cell()}", f"-{part[0]}",
            f"MAP({self.area()},LAMBDA(Z,Z&1))", "X", "X+Y", "Y(1)"])

    def formula(self):
        return ("=" + self.part(self.draw.choice([0, 1, 1, 2])))[:96]

    def text(self):
        draw = self.draw
        if draw.random() < self.formulas:
            return self.formula()
        return draw.choice(["1", "2", "0", "3", "", "", "t", "TRUE", "#NA!", "'=A1", "2.5", "-1", "'", "4"])

    def fixed_formula(self):
        draw = self.draw
        cell = f"${draw.choice('ABCD')}${draw.randrange(1, 7)}"
        sheet = draw.choice(["MAIN", "P", "Q"])
        return draw.choice([f"={sheet}!{cell}", f"={sheet}!{cell}+1", "=1", "=LAMBDA(Z,Z+1)",
            f"=LAMBDA(Z,Z+{sheet}!{cell})",
                            f"=SUM({sheet}!$A$1:{cell})", "=Y", "=X"])

    def box(self, most=3):
        draw = self.draw
        row, column = draw.randrange(self.rows), draw.randrange(self.columns)
        return row, column, draw.randrange(1, most + 1), draw.randrange(1, most + 1)

    def deed(self, book):
        """A deed as (word, arguments)."""
        draw = self.draw
        many = len(book.sheets())
        sheet, other = draw.randrange(many), draw.randrange(many)
        row, column, height, width = self.box()
        to_row, to_column = draw.randrange(self.rows), draw.randrange(self.columns)
        way = draw.randrange(100)
        if way < 40:
            return "put", (sheet, row, column, self.text())
        if way < 46:
            return "put_block", (sheet, row, column, height, width, self.formula())
        if way < 49:
            return "clear", (sheet, row, column, height, width)
        if way < 54:
            return "copy", (sheet, row, column, height, width, other, to_row, to_column)
        if way < 61:
            return "cut", (sheet, row, column, height, width, other, to_row, to_column)
        if way < 64:
            return draw.choice(["fill_down", "fill_right"]), (sheet, row, column, height, width)
        if way < 67:
            return "sort_rows", (sheet, row, column, height, width, draw.randrange(width), draw.random() < 0.5)
        if way < 73:
            word = draw.choice(["insert_rows", "insert_columns", "delete_rows", "delete_columns"])
            return word, (sheet, draw.randrange(self.columns), draw.randrange(1, 3))
        if way < 80:
            return "define", (draw.choice("XY"), self.fixed_formula())
        if way < 82:
            return "undefine", (draw.choice("XY"),)
        if way < 84:
            return "add_sheet", (draw.randrange(many + 1), draw.choice(["P", "Q", "R"]))
        if way < 86:
            return "rename_sheet", (sheet, draw.choice(["P", "Q", "R", "MAIN"]))
        if way < 87:
            return "move_sheet", (sheet, other)
        if way < 88:
            return "drop_sheet", (sheet,)
        if way < 93:
            return "undo", ()
        if way < 96:
            return "redo", ()
        return draw.choice([("begin", ()), ("commit", ()), ("abort", ())])
