"""Tables, plans, sheets, known wires and picks from their texts."""

from cornertold.errors import NoText
from cornertold.kinds import is_between, is_numbers, is_tuple_of
from cornertold.picks import is_pick
from cornertold.plans import is_many_threads
from cornertold.tables import is_many_letters, is_many_tables, is_table
from cornertold.told import is_known

FIGURES = "0123456789"
MOST_FIGURES = 30


def demand(so, row):
    """NoText of that row where it isn't so."""
    if not so:
        raise NoText(row)


def lines_in(text):
    """The rows of a text, none of the empty one; NoText, of anything, where it is no text."""
    demand(isinstance(text, str), 0)
    return text.split("\n") if len(text) > 0 else []


def line_at(lines, at):
    """The row with that number; NoText where it lacks."""
    demand(at < len(lines), at)
    return lines[at]


def is_figures(word):
    return all([sign in FIGURES for sign in word])


def number_in(word):
    """The number that the word writes, None where it writes none."""
    if not (1 <= len(word) <= MOST_FIGURES and is_figures(word)):
        return None
    if word[0] == "0" and len(word) > 1:
        return None
    return int(word)


def numbers_in(words):
    """The numbers that the words write, None where one of them writes none."""
    numbers = tuple([number_in(word) for word in words])
    return None if None in numbers else numbers


def read_table(q, text):
    """The table of q letters that the text writes; NoText, of anything as text."""
    lines = lines_in(text)
    table = table_in(line_at(lines, 0).split(" "))
    demand(is_table(q, table), 0)
    demand(len(lines) == 1, 1)
    return table


def table_in(words):
    """What the words write, each by its figures; perhaps no table."""
    return tuple([tuple([int(sign) for sign in word]) if is_figures(word) else () for word in words])


def words_behind(word, lines, at):
    """The words of the row with that number behind the first one; NoText where that isn't this word."""
    first, *rest = line_at(lines, at).split(" ")
    demand(first == word, at)
    return rest


def read_plan(text):
    """The plan that the text writes; NoText, of anything as text."""
    lines = lines_in(text)
    letters = numbers_in(words_behind("letters", lines, 0))
    demand(is_tuple_of(letters, 1) and is_many_letters(letters[0]), 0)
    tables = tables_in(letters[0], lines)
    at = 1 + len(tables)
    columns = numbers_in(words_behind("columns", lines, at))
    demand(is_tuple_of(columns, 1) and is_many_threads(columns[0]), at)
    rows = rows_in(columns[0], len(tables), lines, at + 1)
    return (letters[0], tables, columns[0], rows)


def tables_in(q, lines):
    """The tables of a plan of q letters, from row 1 on."""
    tables = []
    for at in range(1, len(lines)):
        first, *rest = lines[at].split(" ")
        if first != "table":
            break
        table = table_in(rest)
        demand(is_many_tables(at) and is_table(q, table), at)
        tables.append(table)
    demand(len(tables) > 0, 1)
    return tuple(tables)


def rows_in(a, many, lines, begin):
    """The rows of a plan of that many columns and that many tables, from the row with the number begin on."""
    rows = []
    for at in range(begin, len(lines)):
        numbers = numbers_in(words_behind("row", lines, at))
        demand(is_many_threads(1 + len(rows)) and is_numbers(numbers, a, many - 1), at)
        rows.append(numbers)
    return tuple(rows)


def read_sheet(q, a, b, text):
    """The sheet of q letters of that size, perhaps a holed one, that the text writes; NoText, of anything as text."""
    lines = lines_in(text)
    rows = tuple([thread_in(q, "row", a + 1, lines, at) for at in range(b)])
    columns = tuple([thread_in(q, "column", b + 1, lines, at) for at in range(b, b + a)])
    demand(len(lines) == a + b, a + b)
    return (rows, columns)


def thread_in(q, word, length, lines, at):
    """The letters and holes of the thread in the row with that number; NoText where it isn't so written."""
    words = words_behind(word, lines, at)
    demand(len(words) == length and all([is_sign(q, part) for part in words]), at)
    return tuple([number_in(part) for part in words])


def is_sign(q, word):
    """Whether the word writes one of q letters or a hole."""
    return word == "-" or is_between(number_in(word), 0, q - 1)


def read_known(a, b, text):
    """The known wires of that size that the text writes; NoText, of anything as text."""
    lines = lines_in(text)
    known = wires_in(line_at(lines, 0))
    demand(is_known(a, b, known), 0)
    demand(len(lines) == 1, 1)
    return known


def wires_in(line):
    """The wires that the row writes, of whatever size, in whatever order, None where it isn't so written."""
    if line == "-":
        return ()
    found = tuple([wire_in(part.split(" ")) for part in line.split(", ")])
    return None if None in found else found


def wire_in(words):
    """The wire that the words write, of whatever size, None where they write none."""
    numbers = numbers_in(words[1:])
    if not (is_tuple_of(numbers, 2) and words[0] in ("row", "column")):
        return None
    return (words[0], numbers[0], numbers[1])


def read_pick(a, b, text):
    """The pick of that size that the text writes; NoText, of anything as text."""
    lines = lines_in(text)
    pick = pick_in(line_at(lines, 0).split(" "))
    demand(is_pick(a, b, pick), 0)
    demand(len(lines) == 1, 1)
    return pick


def pick_in(words):
    """The numbers ahead of the stroke and those behind it, None where the words aren't so written."""
    if words.count("/") != 1:
        return None
    at = words.index("/")
    ahead = numbers_in(words[:at])
    behind = numbers_in(words[at + 1:])
    return None if ahead is None or behind is None else (ahead, behind)
