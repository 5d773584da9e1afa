"""Foldings: sheets that are folded simply, fold behind fold."""

from creasecourt.errors import NoFold
from creasecourt.layings import STILL, led, mirror_in, then
from creasecourt.piles import marks_by
from creasecourt.places import hand_of, mirrored, sides_of
from creasecourt.sheets import check_size, edges_in, quarters_in


def copied_piles(piles):
    told = {}
    for place, pile in piles.items():
        told[place] = list(pile)
    return told


# The layings when all that lies at this side of the edge is mirrored in it.
def folded_layings(layings, edge, side):
    mirror = mirror_in(edge)
    told = {}
    for quarter, laying in layings.items():
        goes = hand_of(led(laying, quarter), edge) == side
        told[quarter] = then(laying, mirror) if goes else laying
    return told


def folded_piles(piles, edge, side, over):
    told = {}
    for place, pile in piles.items():
        if hand_of(place, edge) != side:
            told[place] = list(pile)
    for place, pile in piles.items():
        if hand_of(place, edge) == side:
            goal = mirrored(place, edge)
            coming = list(reversed(pile))
            there = told.get(goal, [])
            told[goal] = there + coming if over else coming + there
    return told


def check_fold(piles, edge):
    hands = [hand_of(place, edge) for place in piles]
    if 1 not in hands or -1 not in hands:
        raise NoFold("no quarter lies at the one side, or at the other one")


def creased_edges(wide, high, layings):
    told = []
    for edge in edges_in(wide, high):
        sides = sides_of(edge)
        if layings[sides[0]] != layings[sides[1]]:
            told.append(edge)
    return told


# The layings and piles ahead of all folds.
def unfolded(wide, high):
    layings = {}
    piles = {}
    for quarter in quarters_in(wide, high):
        layings[quarter] = STILL
        piles[quarter] = [quarter]
    return (layings, piles)


class Folding:
    def __init__(self, wide, high):
        check_size(wide, high)
        self.wide = wide
        self.high = high
        # The layings and piles behind each fold, the last ones at the end: so going back leaves these off.
        self.states = [unfolded(wide, high)]

    def fold(self, edge, ahead=True, over=True):
        now = self.states[-1]
        check_fold(now[1], edge)
        side = 1 if ahead else -1
        self.states.append((folded_layings(now[0], edge, side), folded_piles(now[1], edge, side, over)))

    def back(self):
        if self.many() == 0:
            raise NoFold("no fold stands that could be taken back")
        self.states.pop()

    def many(self):
        return len(self.states) - 1

    def layings(self):
        return dict(self.states[-1][0])

    def piles(self):
        return copied_piles(self.states[-1][1])

    def sheet(self):
        now = self.states[-1]
        opened = tuple([(edge, "o") for edge in creased_edges(self.wide, self.high, now[0])])
        marks = marks_by((self.wide, self.high, opened), now[0], now[1])
        return (self.wide, self.high, tuple(marks))
