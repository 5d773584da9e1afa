"""Piles: the order of the quarters at each place, what crosses in it, and the marks by it."""

from creasecourt.laid import edges_laid, stacks
from creasecourt.layings import is_turned, led
from creasecourt.places import sides_of


def are_piles(layings, piles):
    expected = stacks(layings)
    if sorted(piles) != sorted(expected):
        return False
    return all([sorted(piles[place]) == expected[place] for place in expected])


def heights_in(piles):
    heights = {}
    for pile in piles.values():
        for height, quarter in enumerate(pile):
            heights[quarter] = height
    return heights


def quarters_at(edge, layings, place):
    return [quarter for quarter in sides_of(edge) if led(layings[quarter], quarter) == place]


# What an edge joins, seen at the edge of the plane at which it is laid: at each of that one's
# two sides, the quarters of the edge that lie there. A crease has two at one side and none at the other.
def joined_at(edge, layings, plane_edge):
    return [quarters_at(edge, layings, side) for side in sides_of(plane_edge)]


def count_between(heights, ends, quarters):
    low = min(heights[ends[0]], heights[ends[1]])
    high = max(heights[ends[0]], heights[ends[1]])
    return len([quarter for quarter in quarters if low < heights[quarter] < high])


def is_above(heights, one, other):
    return heights[one] > heights[other]


def crosses(heights, one, other):
    for ours, theirs in zip(one, other):
        if len(ours) == 2:
            return count_between(heights, ours, theirs) == 1
        if len(theirs) == 2:
            return count_between(heights, theirs, ours) == 1
    return is_above(heights, one[0][0], other[0][0]) != is_above(heights, one[1][0], other[1][0])


def crossing_at(heights, layings, place, edges):
    joined = [joined_at(edge, layings, place) for edge in edges]
    pairs = []
    for k, edge in enumerate(edges):
        for m in range(k + 1, len(edges)):
            if crosses(heights, joined[k], joined[m]):
                pairs.append((edge, edges[m]))
    return pairs


def crossing(sheet, layings, piles):
    heights = heights_in(piles)
    pairs = []
    for place, edges in edges_laid(sheet, layings).items():
        pairs.extend(crossing_at(heights, layings, place, edges))
    return min(pairs, default=None)


# The two quarters beside a crease, the turned one first.
def turned_first(layings, edge):
    sides = sides_of(edge)
    if is_turned(layings[sides[0]]):
        return sides
    return [sides[1], sides[0]]


def mark_by_heights(heights, layings, edge):
    sides = turned_first(layings, edge)
    return "v" if is_above(heights, sides[0], sides[1]) else "h"


def marks_by(sheet, layings, piles):
    heights = heights_in(piles)
    return [(edge, mark_by_heights(heights, layings, edge)) for edge, mark in sheet[2]]


def keeps(sheet, layings, piles):
    for crease, told in zip(sheet[2], marks_by(sheet, layings, piles)):
        if crease[1] != "o" and crease[1] != told[1]:
            return False
    return True
