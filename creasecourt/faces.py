"""Faces: the quarters of a sheet that hang together."""

from creasecourt.sheets import marks_in, neighbours_in, quarters_in


def face_with(sheet, marks, quarter):
    found = {quarter: True}
    due = [quarter]
    while due:
        here = due.pop()
        for edge, other in neighbours_in(sheet[0], sheet[1], here):
            if edge not in marks and other not in found:
                found[other] = True
                due.append(other)
    return sorted(found)


def faces(sheet):
    marks = marks_in(sheet)
    told = []
    seen = {}
    for quarter in quarters_in(sheet[0], sheet[1]):
        if quarter not in seen:
            face = face_with(sheet, marks, quarter)
            told.append(face)
            for member in face:
                seen[member] = True
    return told
