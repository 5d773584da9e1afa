"""Corners alone: which rows of marks fold, by crimp upon crimp, and how many there are."""

from creasecourt.errors import NoMark
from creasecourt.wedges import check_round


def check_row(gaps, marks):
    if len(marks) != len(gaps) or marks.count("h") + marks.count("v") != len(marks):
        raise NoMark("a row of marks has one h or v for each crease")


# While crimps go on, a wedge is a tuple (length, mark, order): the mark is that of the crease
# ahead of it, the order that of the wedges of which it is made, which stay side by side.
def wedges_by(gaps, marks):
    return [(gap, marks[k], [k]) for k, gap in enumerate(gaps)]


def is_crimp(first, amid, third):
    return amid[0] <= first[0] and amid[0] <= third[0] and amid[1] != third[1]


# The wedges, begun with the first of three that a crimp makes one; None where there are none.
def brought_ahead(wedges):
    for k in range(len(wedges)):
        turned = wedges[k:] + wedges[:k]
        if is_crimp(turned[0], turned[1], turned[2]):
            return turned
    return None


# An order's outermost parts are as its wedge: turned over where their numbers are odd.
def is_turned_part(wedge):
    return wedge[2][0] % 2 == 1


# The one amid keeps its place between the two, so its first mark tells which of them lies below.
def crimped(first, amid, third):
    length = first[0] - amid[0] + third[0]
    if (amid[1] == "v") == is_turned_part(amid):
        return (length, first[1], first[2] + amid[2] + third[2])
    return (length, first[1], third[2] + amid[2] + first[2])


def last_two(one, other):
    if one[1] != other[1]:
        return None
    if (one[1] == "v") == is_turned_part(one):
        return other[2] + one[2]
    return one[2] + other[2]


def folded_order(gaps, marks):
    wedges = wedges_by(gaps, marks)
    while len(wedges) > 2:
        turned = brought_ahead(wedges)
        if turned is None:
            return None
        wedges = [crimped(turned[0], turned[1], turned[2])] + turned[3:]
    return last_two(wedges[0], wedges[1])


def order_for(gaps, marks):
    check_round(gaps)
    check_row(gaps, marks)
    return folded_order(gaps, marks)


def rows_of(count):
    rows = [""]
    for length in range(count):
        rows = ["h" + row for row in rows] + ["v" + row for row in rows]
    return rows


def all_marks(gaps):
    check_round(gaps)
    return [row for row in rows_of(len(gaps)) if folded_order(gaps, row) is not None]


def ways_to_choose(some, count):
    ways = 1
    for k in range(some):
        ways = ways * (count - k) // (k + 1)
    return ways


# The gaps, begun with the first of a run of least ones that has longer ones at both ends.
def least_ahead(gaps):
    least = min(gaps)
    start = [k for k, gap in enumerate(gaps) if gap == least and gaps[k - 1] > least][0]
    return gaps[start:] + gaps[:start]


def run_of_least(gaps):
    run = 1
    while gaps[run] == gaps[0]:
        run = run + 1
    return run


def ways_to_fold(gaps):
    if min(gaps) == max(gaps):
        return 2 * ways_to_choose(len(gaps) // 2 - 1, len(gaps))
    turned = least_ahead(gaps)
    run = run_of_least(turned)
    ways = ways_to_choose((run + 1) // 2, run + 1)
    if run % 2 == 0:
        return ways * ways_to_fold(turned[run:])
    merged = turned[-1] + turned[run] - turned[0]
    return ways * ways_to_fold(turned[run + 1:-1] + [merged])


def how_many(gaps):
    check_round(gaps)
    return ways_to_fold(gaps)
