"""Sheets: what lies within them, and how they are made of their size and their creases."""

from creasecourt.errors import NoEdge, NoMark, NoSize, Twice
from creasecourt.places import edges_of, is_corner, is_edge, is_place, is_quarter, is_whole, mirrored

MARKS = ("h", "v", "o")


def is_size(value):
    return is_whole(value) and 1 <= value <= 6


def check_size(wide, high):
    if not (is_size(wide) and is_size(high)):
        raise NoSize("a sheet is from 1 to 6 squares wide and high")


def is_mark(value):
    return isinstance(value, str) and value in MARKS


# No quarter lies on the border, and the edges and corners that do are no inner ones:
# so one question serves all three.
def is_within(wide, high, place):
    return 0 < place[0] < 4 * wide and 0 < place[1] < 4 * high


def places_within(wide, high):
    places = []
    for x in range(1, 4 * wide):
        places.extend([(x, y) for y in range(1, 4 * high)])
    return places


def quarters_in(wide, high):
    return [place for place in places_within(wide, high) if is_quarter(place)]


def edges_in(wide, high):
    return [place for place in places_within(wide, high) if is_edge(place)]


def corners_in(wide, high):
    return [place for place in places_within(wide, high) if is_corner(place)]


def is_inner_edge(wide, high, value):
    return is_place(value) and is_within(wide, high, value) and is_edge(value)


# Each inner edge of a quarter, with the quarter at its other side.
def neighbours_in(wide, high, quarter):
    return [(edge, mirrored(quarter, edge)) for edge in edges_of(quarter) if is_within(wide, high, edge)]


def sheet_of(wide, high, creases):
    check_size(wide, high)
    marks = {}
    for crease in creases:
        edge = crease[0]
        if not is_inner_edge(wide, high, edge):
            raise NoEdge(edge)
        if not is_mark(crease[1]):
            raise NoMark("a mark is h, v or o")
        if edge in marks:
            raise Twice(edge)
        marks[edge] = crease[1]
    return (wide, high, tuple(sorted(marks.items())))


def marks_in(sheet):
    return dict(sheet[2])


def mark_at(sheet, edge):
    return marks_in(sheet).get(edge)
