"""The inner corners of a sheet: their creases, their gaps, and whether these bar it."""

from creasecourt.errors import Barred
from creasecourt.places import edges_round
from creasecourt.sheets import corners_in, marks_in
from creasecourt.wedges import is_good


def creases_at(sheet, corner):
    marks = marks_in(sheet)
    return [edge for edge in edges_round(corner) if edge in marks]


def gaps_at(sheet, corner):
    edges = edges_round(corner)
    creases = creases_at(sheet, corner)
    starts = [edges.index(crease) for crease in creases]
    # The last gap leads on to the first crease, one turn later.
    ends = starts[1:] + [start + len(edges) for start in starts[:1]]
    eighths = 8 // len(edges)
    return [(end - start) * eighths for start, end in zip(starts, ends)]


def barred(sheet):
    for corner in corners_in(sheet[0], sheet[1]):
        if not is_good(gaps_at(sheet, corner)):
            return corner
    return None


def check_corners(sheet):
    corner = barred(sheet)
    if corner is not None:
        raise Barred(corner)
