"""Layings: how paper comes to lie by mirrors, one behind the other."""

from creasecourt.places import mirrored

STILL = (1, 0, 0, 1, 0, 0)


# Where three places go tells the whole laying, so that mirrors and layings
# one behind the other need no second set of formulas.
def laying_by(start, right, down):
    return (
        right[0] - start[0],
        down[0] - start[0],
        right[1] - start[1],
        down[1] - start[1],
        start[0],
        start[1],
    )


def mirror_in(edge):
    return laying_by(mirrored((0, 0), edge), mirrored((1, 0), edge), mirrored((0, 1), edge))


def led(laying, place):
    x = place[0]
    y = place[1]
    return (laying[0] * x + laying[1] * y + laying[4], laying[2] * x + laying[3] * y + laying[5])


def then(one, other):
    return laying_by(
        led(other, led(one, (0, 0))),
        led(other, led(one, (1, 0))),
        led(other, led(one, (0, 1))),
    )


# Mirrors keep lengths and right angles, so exchanging b and c undoes the turn.
def way_back(laying):
    unturn = (laying[0], laying[2], laying[1], laying[3], 0, 0)
    shift = led(unturn, (laying[4], laying[5]))
    return (laying[0], laying[2], laying[1], laying[3], -shift[0], -shift[1])


def is_turned(laying):
    return laying[0] * laying[3] - laying[1] * laying[2] == -1
