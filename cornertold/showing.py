"""Texts of tables, plans, sheets, known wires and picks."""


def show_table(table):
    """The text of a table, one row."""
    return " ".join([shown_quad(quad) for quad in table])


def shown_quad(quad):
    return "".join([str(sign) for sign in quad])


def show_plan(plan):
    """The text of a plan."""
    q, tables, a, rows = plan
    lines = [f"letters {q}"] + [f"table {show_table(table)}" for table in tables] + [f"columns {a}"]
    return "\n".join(lines + [shown_thread("row", row) for row in rows])


def shown_thread(word, signs):
    """The row of that word and these numbers, a dash for each hole."""
    return " ".join([word] + ["-" if sign is None else str(sign) for sign in signs])


def show_sheet(sheet):
    """The text of a sheet, of a holed one, too; without threads the empty text."""
    rows, columns = sheet
    return "\n".join([shown_thread("row", row) for row in rows] + [shown_thread("column", one) for one in columns])


def show_known(known):
    """The text of known wires, one row."""
    if not known:
        return "-"
    return ", ".join([f"{word} {number} {place}" for word, number, place in known])


def show_pick(pick):
    """The text of a pick, one row."""
    xs, ys = pick
    return " ".join([str(x) for x in xs] + ["/"] + [str(y) for y in ys])
