"""Ties: creases round a corner whose marks must be alike, or unlike."""

from creasecourt.corners import check_corners, creases_at, gaps_at
from creasecourt.sheets import corners_in


def tie_of(one, other, alike, corner):
    return (min(one, other), max(one, other), alike, corner)


def is_least(gaps, k):
    return gaps[k] < gaps[k - 1] and gaps[k] < gaps[(k + 1) % len(gaps)]


def ties_of_gap(creases, k, corner):
    count = len(creases)
    told = [tie_of(creases[k], creases[(k + 1) % count], False, corner)]
    if count == 4:
        told.append(tie_of(creases[(k + 2) % 4], creases[(k + 3) % 4], True, corner))
    return told


def ties_at(sheet, corner):
    creases = creases_at(sheet, corner)
    gaps = gaps_at(sheet, corner)
    if len(creases) == 2:
        return [tie_of(creases[0], creases[1], True, corner)]
    told = []
    for k in range(len(creases)):
        if is_least(gaps, k):
            told.extend(ties_of_gap(creases, k, corner))
    return told


def ties(sheet):
    check_corners(sheet)
    told = []
    for corner in corners_in(sheet[0], sheet[1]):
        told.extend(ties_at(sheet, corner))
    return sorted(told)
