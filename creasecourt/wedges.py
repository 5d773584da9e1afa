"""Corners alone: good gaps, and orders of the wedges between their creases."""

from creasecourt.errors import NoOrder, NoRound
from creasecourt.places import is_whole


def is_good(gaps):
    if len(gaps) > 8 or len(gaps) % 2 == 1:
        return False
    if not all([is_whole(gap) and gap >= 1 for gap in gaps]):
        return False
    return sum(gaps[::2]) == sum(gaps[1::2])


def check_round(gaps):
    if len(gaps) < 2 or not is_good(gaps):
        raise NoRound("a corner alone has two to eight good gaps")


def check_order(gaps, order):
    if not all([is_whole(wedge) for wedge in order]) or sorted(order) != list(range(len(gaps))):
        raise NoOrder("an order names each wedge once")


def spots_of(gaps):
    check_round(gaps)
    spots = [0]
    for k, gap in enumerate(gaps[:-1]):
        spots.append(spots[k] + (gap if k % 2 == 0 else -gap))
    return spots


# The two wedges of crease k.
def wedges_at(count, k):
    return [(k - 1) % count, k]


def heights_of(order):
    heights = {}
    for height, wedge in enumerate(order):
        heights[wedge] = height
    return heights


def is_between(height, one, other):
    return min(one, other) < height < max(one, other)


# Which of these wedges stand between the two of crease k.
def between_at(order, k, wedges):
    heights = heights_of(order)
    ends = [heights[wedge] for wedge in wedges_at(len(order), k)]
    return [wedge for wedge in wedges if is_between(heights[wedge], ends[0], ends[1])]


def reaches_beyond(spots, wedge, spot):
    return is_between(spot, spots[wedge], spots[(wedge + 1) % len(spots)])


def shutting_wedges(spots, order, k):
    wedges = [wedge for wedge in range(len(spots)) if reaches_beyond(spots, wedge, spots[k])]
    return between_at(order, k, wedges)


def is_shutting_crease(spots, order, k, m):
    if m == k or m % 2 != k % 2 or spots[m] != spots[k]:
        return False
    return len(between_at(order, k, wedges_at(len(spots), m))) == 1


def shutting_creases(spots, order, k):
    return [m for m in range(len(spots)) if is_shutting_crease(spots, order, k, m)]


def shut_at(gaps, order):
    spots = spots_of(gaps)
    check_order(gaps, order)
    for k in range(len(gaps)):
        wedges = shutting_wedges(spots, order, k)
        if wedges:
            return ("wedge", k, wedges[0])
        creases = shutting_creases(spots, order, k)
        if creases:
            return ("crease", k, creases[0])
    return None


# Of the two wedges of a crease the one with the odd number is turned over:
# crease k's own wedge where k is odd, else the one ahead of it.
def mark_by(heights, k):
    wedges = wedges_at(len(heights), k)
    turned = wedges[k % 2]
    other = wedges[1 - k % 2]
    return "v" if heights[turned] > heights[other] else "h"


def marks_of(gaps, order):
    check_round(gaps)
    check_order(gaps, order)
    heights = heights_of(order)
    return "".join([mark_by(heights, k) for k in range(len(gaps))])
