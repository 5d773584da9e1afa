"""Marks carried over ties, and rounds in which ties and marks gainsay one another."""

from creasecourt.sheets import marks_in
from creasecourt.ties import ties

TURNED = {"h": "v", "v": "h"}


# A tie walked from its other edge; so also a step walked back.
def walked_back(step):
    return (step[1], step[0], step[2], step[3])


def steps_from(sheet):
    steps = {}
    for tie in ties(sheet):
        steps.setdefault(tie[0], []).append(tie)
        steps.setdefault(tie[1], []).append(walked_back(tie))
    return steps


def is_marked(mark):
    return mark in TURNED


def marked_creases(sheet):
    return [edge for edge, mark in sheet[2] if is_marked(mark)]


# For each edge to which steps lead from the starts, the last of these steps; None for a start itself.
def last_steps(steps, starts):
    reached = {}
    for start in starts:
        reached[start] = None
    due = list(starts)
    while due:
        here = due.pop(0)
        for step in steps.get(here, []):
            if step[1] not in reached:
                reached[step[1]] = step
                due.append(step[1])
    return reached


def way_by(reached, edge):
    way = []
    step = reached[edge]
    while step is not None:
        way.append(step)
        step = reached[step[0]]
    return list(reversed(way))


def is_alike(way):
    return len([step for step in way if not step[2]]) % 2 == 0


def back_by(way):
    return [walked_back(step) for step in reversed(way)]


# A way out, one more step, and a way back to the same start: a round where it tells unlike.
def round_by_step(reached, step):
    return way_by(reached, step[0]) + [step] + back_by(way_by(reached, step[1]))


def round_within(steps, marks, start):
    reached = last_steps(steps, [start])
    for edge in reached:
        way = way_by(reached, edge)
        if is_marked(marks[edge]) and is_marked(marks[start]) and is_alike(way) != (marks[edge] == marks[start]):
            return way
        for step in steps.get(edge, []):
            found = round_by_step(reached, step)
            if not is_alike(found):
                return found
    return None


# Marked creases come first as starts: so a round between two of them begins with the one
# from which all that hangs together is walked.
def round_of(sheet):
    steps = steps_from(sheet)
    marks = marks_in(sheet)
    seen = {}
    for start in marked_creases(sheet) + list(marks):
        if start not in seen:
            found = round_within(steps, marks, start)
            if found is not None:
                return found
            seen.update(last_steps(steps, [start]))
    return None


def carried_mark(marks, reached, edge):
    if edge not in reached:
        return "o"
    way = way_by(reached, edge)
    first = way[0][0] if way else edge
    return marks[first] if is_alike(way) else TURNED[marks[first]]


def carried(sheet):
    reached = last_steps(steps_from(sheet), marked_creases(sheet))
    marks = marks_in(sheet)
    return [(edge, carried_mark(marks, reached, edge)) for edge in marks]


def way_to(sheet, edge):
    reached = last_steps(steps_from(sheet), marked_creases(sheet))
    if edge not in reached:
        return None
    return way_by(reached, edge)
