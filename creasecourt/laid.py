"""How the quarters of a sheet are laid, and what comes to lie where."""

from creasecourt.corners import check_corners
from creasecourt.layings import STILL, led, mirror_in, then
from creasecourt.places import sides_of
from creasecourt.sheets import edges_in, marks_in, neighbours_in, quarters_in


# No corner being barred, each way from the first quarter to another one leads to the same laying.
def laid(sheet):
    check_corners(sheet)
    marks = marks_in(sheet)
    first = quarters_in(sheet[0], sheet[1])[0]
    layings = {first: STILL}
    due = [first]
    while due:
        here = due.pop()
        for edge, other in neighbours_in(sheet[0], sheet[1], here):
            if other not in layings:
                layings[other] = then(mirror_in(edge), layings[here]) if edge in marks else layings[here]
                due.append(other)
    return dict(sorted(layings.items()))


def stacks(layings):
    told = {}
    for quarter in sorted(layings):
        told.setdefault(led(layings[quarter], quarter), []).append(quarter)
    return told


# Both quarters beside an edge lead it to one and the same edge.
def edges_laid(sheet, layings):
    told = {}
    for edge in edges_in(sheet[0], sheet[1]):
        told.setdefault(led(layings[sides_of(edge)[0]], edge), []).append(edge)
    return told
