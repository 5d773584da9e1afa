"""The court: whether a sheet can be folded flat, with marks and piles, or with what bars it."""

from creasecourt.carried import round_of
from creasecourt.corners import barred
from creasecourt.errors import TooMany
from creasecourt.faces import faces
from creasecourt.laid import laid, stacks
from creasecourt.piles import marks_by
from creasecourt.rules import all_bars, numbers_of, pairs


# For each order, the bars that it would complete: the other orders of each, and its end.
def bars_by_order(sheet, layings):
    told = {}
    for orders, end in all_bars(sheet, layings):
        for order in orders:
            others = [other for other in orders if other != order]
            told.setdefault(order, []).append((others, end))
    return told


# The end of the paper where this order can't be taken any more, else None.
def end_at(bars, taken, order):
    for others, end in bars.get(order, []):
        if all([other in taken for other in others]):
            return end
    return None


def turned_about(pair):
    return (pair[1], pair[0])


# A pair of which one order is barred already leaves no choice: taken first, it keeps the paper short.
def chosen_pair(bars, taken, due):
    for pair in due:
        if end_at(bars, taken, pair) is not None or end_at(bars, taken, turned_about(pair)) is not None:
            return pair
    return due[0]


# Tells (taken, None) with orders of all pairs, or (None, paper) where there are none.
def judged(bars, taken, due):
    if not due:
        return (taken, None)
    pair = chosen_pair(bars, taken, due)
    rest = [other for other in due if other != pair]
    below = judged_with(bars, taken, rest, pair)
    if below[0] is not None:
        return below
    above = judged_with(bars, taken, rest, turned_about(pair))
    if above[0] is not None:
        return above
    return (None, ("split", pair[0], pair[1], below[1], above[1]))


def judged_with(bars, taken, due, order):
    end = end_at(bars, taken, order)
    if end is not None:
        return (None, end)
    more = dict(taken)
    more[order] = True
    return judged(bars, more, due)


def count_below(taken, there, face):
    return len([other for other in there if (other, face) in taken])


# Without rings, no two at a place have equally many below them.
def pile_by(taken, numbers, quarters):
    there = [numbers[quarter] for quarter in quarters]
    return sorted(quarters, key=lambda quarter: count_below(taken, there, numbers[quarter]))


def piles_by(sheet, layings, taken):
    numbers = numbers_of(sheet)
    piles = {}
    for place, quarters in stacks(layings).items():
        piles[place] = pile_by(taken, numbers, quarters)
    return piles


def judged_by_piles(sheet):
    layings = laid(sheet)
    found = judged(bars_by_order(sheet, layings), {}, pairs(sheet, layings))
    if found[0] is None:
        return ("shut", found[1])
    piles = piles_by(sheet, layings, found[0])
    return ("folds", marks_by(sheet, layings, piles), piles)


def verdict(sheet):
    if len(faces(sheet)) > 9:
        raise TooMany("a verdict is told of at most nine faces")
    corner = barred(sheet)
    if corner is not None:
        return ("barred", corner)
    steps = round_of(sheet)
    if steps is not None:
        return ("round", steps)
    return judged_by_piles(sheet)
