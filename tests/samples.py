"""Sheets, foldings and checks that several tests share; the checks go by DOC.md's words, not by the program."""

import itertools

# Sixty figures, and beyond.
SIXTY = 10 ** 60 - 1
BEYOND = 10 ** 70

# Things that are no whole numbers, no places, no texts.
STRANGE = [None, True, False, 1.0, 2.5, "1", "", b"1", [1], (1,), (), {}, {1}, 1j, object(), print, float("nan")]


class Chance:
    """A plain row of numbers that looks like chance, the same under each Python."""

    def __init__(self, seed):
        self.state = seed * 2 + 1

    def below(self, bound):
        self.state = (self.state * 6364136223846793005 + 1442695040888963407) % 2 ** 64
        return (self.state >> 33) % bound

    def one_of(self, things):
        return things[self.below(len(things))]

    def shuffled(self, things):
        left = list(things)
        told = []
        while left:
            told.append(left.pop(self.below(len(left))))
        return told


def signs_of(place):
    """What a place is by point 5: C, L, U, F, R, Q or a dot."""
    return ["C.L.", ".FQR", "UQCQ", ".RQF"][place[1] % 4][place[0] % 4]


def all_places(wide, high):
    return [(x, y) for x in range(4 * wide + 1) for y in range(4 * high + 1)]


def quarters_by_hand(wide, high):
    return [place for place in all_places(wide, high) if signs_of(place) == "Q"]


def sides_by_hand(edge):
    x, y = edge
    near = [(x - 1, y), (x, y - 1), (x, y + 1), (x + 1, y)]
    return [place for place in near if signs_of(place) == "Q"]


def edges_by_hand(wide, high):
    quarters = set(quarters_by_hand(wide, high))
    return [
        place for place in all_places(wide, high)
        if signs_of(place) in "LUFR" and set(sides_by_hand(place)) <= quarters
    ]


def corners_by_hand(wide, high):
    return [
        (x, y) for (x, y) in all_places(wide, high)
        if signs_of((x, y)) == "C" and 0 < x < 4 * wide and 0 < y < 4 * high
    ]


def sheet(wide, high, marks):
    """A sheet of a dict from edges to marks."""
    return (wide, high, tuple(sorted(marks.items())))


def open_sheet(wide, high, edges):
    return sheet(wide, high, {edge: "o" for edge in edges})


def all_creased(wide, high, mark="o"):
    return sheet(wide, high, {edge: mark for edge in edges_by_hand(wide, high)})


ROUND_EIGHT = [(2, 0), (1, 1), (0, 2), (-1, 1), (-2, 0), (-1, -1), (0, -2), (1, -1)]
ROUND_FOUR = [(1, 1), (-1, 1), (-1, -1), (1, -1)]


def round_by_hand(corner):
    x, y = corner
    return [(x + i, y + j) for i, j in (ROUND_EIGHT if x % 4 == 0 else ROUND_FOUR)]


def good_by_hand(numbers, steps):
    """Whether creases at these numbers round a corner of so many edges leave good gaps."""
    if len(numbers) % 2:
        return False
    gaps = [(b - a) % steps for a, b in zip(numbers, numbers[1:] + numbers[:1])]
    return sum(gaps[::2]) == sum(gaps[1::2])


def is_barred_by_hand(edges, corner):
    around = round_by_hand(corner)
    return not good_by_hand([k for k, edge in enumerate(around) if edge in edges], len(around))


def first_barred_by_hand(wide, high, edges):
    for corner in corners_by_hand(wide, high):
        if is_barred_by_hand(edges, corner):
            return corner
    return None


CENTRE_CHOICES = [(), (0, 2), (1, 3), (0, 1, 2, 3)]


def some_good_creases(wide, high, chance, tries=2000):
    """Edges, as chance will, that leave no inner corner barred; None where too many tries failed."""
    edges = set()
    for x in range(2, 4 * wide, 4):
        for y in range(2, 4 * high, 4):
            chosen = chance.one_of(CENTRE_CHOICES + [(), ()])
            edges |= {round_by_hand((x, y))[k] for k in chosen}
    straight = [edge for edge in edges_by_hand(wide, high) if signs_of(edge) in "LU"]
    corners = [corner for corner in corners_by_hand(wide, high) if corner[0] % 4 == 0]
    for unused in range(tries):
        chosen = edges | {edge for edge in straight if chance.below(3) == 0}
        if not any(is_barred_by_hand(chosen, corner) for corner in corners):
            return sorted(chosen)
    return None


def small_good_creases():
    """All sets of creases on 2 by 2 squares that leave no inner corner barred."""
    centres = [(2, 2), (2, 6), (6, 2), (6, 6)]
    straight = [(2, 4), (6, 4), (4, 2), (4, 6)]
    told = []
    for choices in itertools.product(CENTRE_CHOICES, repeat=4):
        slanted = {round_by_hand(centre)[k] for centre, chosen in zip(centres, choices) for k in chosen}
        for count in range(5):
            for chosen in itertools.combinations(straight, count):
                edges = slanted | set(chosen)
                if not is_barred_by_hand(edges, (4, 4)):
                    told.append(sorted(edges))
    return told
