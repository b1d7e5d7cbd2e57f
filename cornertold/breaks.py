"""Broken sheets, and the single changes that mend them."""

from cornertold.plans import size
from cornertold.sheets import has_quad
from cornertold.wires import crossings_at, wires


def broken(plan, sheet):
    """The crossings, rising, at whose legs the sheet has no quad of the table."""
    a, b = size(plan)
    return tuple([(i, j) for i in range(a) for j in range(b) if not has_quad(plan, sheet, i, j)])


def put(sheet, wire, letter):
    """The sheet with that letter on that wire."""
    rows, columns = sheet
    word, number, place = wire
    if word == "row":
        return (put_within(rows, number, place, letter), columns)
    return (rows, put_within(columns, number, place, letter))


def put_within(threads, number, place, sign):
    """The threads, of letters or of numbers of tables, with that sign at that place of the one with that number."""
    thread = threads[number]
    changed = thread[:place] + (sign,) + thread[place + 1:]
    return threads[:number] + (changed,) + threads[number + 1:]


def mends(plan, sheet):
    """All (wire, letter), rising, by each of which alone, put on the sheet anew, it is a cloth of the plan."""
    a, b = size(plan)
    wrong = broken(plan, sheet)
    found = []
    for wire in wires(a, b):
        touched = crossings_at(a, b, wire)
        # A letter mends no crossing that its wire doesn't touch.
        if all([crossing in touched for crossing in wrong]):
            found.extend([(wire, sign) for sign in mending_letters(plan, sheet, wire, touched)])
    return tuple(found)


def mending_letters(plan, sheet, wire, touched):
    """The letters unlike the sheet's on that wire with which none of the crossings that it touches is broken."""
    found = []
    for sign in range(plan[0]):
        other = put(sheet, wire, sign)
        if other != sheet and all([has_quad(plan, other, i, j) for i, j in touched]):
            found.append(sign)
    return found
