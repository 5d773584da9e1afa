"""Drawings: a sheet as rows of signs, and read again."""

from creasecourt.errors import NoText
from creasecourt.places import is_edge, line_of
from creasecourt.sheets import edges_in, is_mark, is_size, is_within, marks_in


def sign_at(sheet, marks, place):
    if place[0] % 4 == 0 and place[1] % 4 == 0:
        return "+"
    if not is_edge(place):
        return " "
    if is_within(sheet[0], sheet[1], place):
        return marks.get(place, ".")
    return "-" if line_of(place) == "level" else "|"


def drawn(sheet):
    marks = marks_in(sheet)
    rows = []
    for y in range(4 * sheet[1] + 1):
        rows.append("".join([sign_at(sheet, marks, (x, y)) for x in range(4 * sheet[0] + 1)]))
    return "\n".join(rows)


# A slice, since rows that are too short are refused only later.
def sign_in(rows, place):
    return rows[place[1]][place[0]:place[0] + 1]


def creases_in(rows, wide, high):
    signs = [(edge, sign_in(rows, edge)) for edge in edges_in(wide, high)]
    return tuple([crease for crease in signs if is_mark(crease[1])])


# Only the marks are looked for; drawing the sheet again shows whether the text is just its drawing.
def read_sheet(text):
    if not isinstance(text, str):
        raise NoText("a drawing is a text")
    rows = text.split("\n")
    wide = len(rows[0]) // 4
    high = len(rows) // 4
    if not (is_size(wide) and is_size(high)):
        raise NoText("no sheet has a drawing of this size")
    sheet = (wide, high, creases_in(rows, wide, high))
    if drawn(sheet) != text:
        raise NoText("no sheet is drawn so")
    return sheet
