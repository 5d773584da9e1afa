"""Sheets, foldings and checks that several tests share; the checks go by DOC.md's words, not by the program."""

import itertools

# Sixty figures, and beyond.
SIXTY = 10 ** 60 - 1
BEYOND = 10 ** 70

# Things that are no whole numbers, no places, no texts.
STRANGE = [None, True, False, 1.0, 2.5, "1", "", b"1", [1], (1,), (), {}, {1}, 1j, object(), print, float("nan")]


class Chance:
    """A plain row of numbers that looks like chance, the same under each Python."""

    def __init__(self, seed):
        self.state = seed * 2 + 1

    def below(self, bound):
        self.state = (self.state * 6364136223846793005 + 1442695040888963407) % 2 ** 64
        return (self.state >> 33) % bound

    def one_of(self, things):
        return things[self.below(len(things))]

    def shuffled(self, things):
        left = list(things)
        told = []
        while left:
            told.append(left.pop(self.below(len(left))))
        return told


def signs_of(place):
    """What a place is by point 5: C, L, U, F, R, Q or a dot."""
    return ["C.L.", ".FQR", "UQCQ", ".RQF"][place[1] % 4][place[0] % 4]


def all_places(wide, high):
    return [(x, y) for x in range(4 * wide + 1) for y in range(4 * high + 1)]


def quarters_by_hand(wide, high):
    return [place for place in all_places(wide, high) if signs_of(place) == "Q"]


def sides_by_hand(edge):
    x, y = edge
    near = [(x - 1, y), (x, y - 1), (x, y + 1), (x + 1, y)]
    return [place for place in near if signs_of(place) == "Q"]


def edges_by_hand(wide, high):
    quarters = set(quarters_by_hand(wide, high))
    return [
        place for place in all_places(wide, high)
        if signs_of(place) in "LUFR" and set(sides_by_hand(place)) <= quarters
    ]


def corners_by_hand(wide, high):
    return [
        (x, y) for (x, y) in all_places(wide, high)
        if signs_of((x, y)) == "C" and 0 < x < 4 * wide and 0 < y < 4 * high
    ]


def sheet(wide, high, marks):
    """A sheet of a dict from edges to marks."""
    return (wide, high, tuple(sorted(marks.items())))


def open_sheet(wide, high, edges):
    return sheet(wide, high, {edge: "o" for edge in edges})


def all_creased(wide, high, mark="o"):
    return sheet(wide, high, {edge: mark for edge in edges_by_hand(wide, high)})


ROUND_EIGHT = [(2, 0), (1, 1), (0, 2), (-1, 1), (-2, 0), (-1, -1), (0, -2), (1, -1)]
ROUND_FOUR = [(1, 1), (-1, 1), (-1, -1), (1, -1)]


def round_by_hand(corner):
    x, y = corner
    return [(x + i, y + j) for i, j in (ROUND_EIGHT if x % 4 == 0 else ROUND_FOUR)]


def good_by_hand(numbers, steps):
    """Whether creases at these numbers round a corner of so many edges leave good gaps."""
    if len(numbers) % 2:
        return False
    gaps = [(b - a) % steps for a, b in zip(numbers, numbers[1:] + numbers[:1])]
    return sum(gaps[::2]) == sum(gaps[1::2])


def is_barred_by_hand(edges, corner):
    around = round_by_hand(corner)
    return not good_by_hand([k for k, edge in enumerate(around) if edge in edges], len(around))


def first_barred_by_hand(wide, high, edges):
    for corner in corners_by_hand(wide, high):
        if is_barred_by_hand(edges, corner):
            return corner
    return None


CENTRE_CHOICES = [(), (0, 2), (1, 3), (0, 1, 2, 3)]


def parts_of(wide, high):
    """What is chosen together: the edges round each square's centre by point 14, and each straight edge alone."""
    parts = {}
    for x in range(2, 4 * wide, 4):
        for y in range(2, 4 * high, 4):
            around = round_by_hand((x, y))
            parts[(x, y)] = [[around[k] for k in chosen] for chosen in CENTRE_CHOICES]
    for edge in edges_by_hand(wide, high):
        if signs_of(edge) in "LU":
            parts[edge] = [[], [edge]]
    return parts


def parts_round(corner):
    x, y = corner
    return [(x + i, y + j) for i, j in [(-2, -2), (-2, 2), (2, -2), (2, 2), (2, 0), (0, 2), (-2, 0), (0, -2)]]


def some_good_creases(wide, high, chance, spread=6):
    """Edges, as chance will, that leave no inner corner barred; the fewer, the less the spread."""
    parts = parts_of(wide, high)
    corners = [corner for corner in corners_by_hand(wide, high) if corner[0] % 4 == 0]

    def chosen_for(names, edges):
        """All choices for these parts, those with few edges rather ahead."""
        made = [[]]
        for name in names:
            made = [one + more for one in made for more in parts[name]]
        keyed = [(len(one) + chance.below(spread), number) for number, one in enumerate(made)]
        return [edges + made[number] for key, number in sorted(keyed)]

    def completed(number, decided, edges):
        if number == len(corners):
            names = [name for name in parts if name not in decided]
            for name in names:
                edges = edges + chance.one_of(parts[name])
            return edges
        corner = corners[number]
        names = [name for name in parts_round(corner) if name not in decided]
        for longer in chosen_for(names, edges):
            if not is_barred_by_hand(longer, corner):
                done = completed(number + 1, decided | set(names), longer)
                if done is not None:
                    return done
        return None

    return sorted(completed(0, set(), []))


def small_good_creases():
    """All sets of creases on 2 by 2 squares that leave no inner corner barred."""
    centres = [(2, 2), (2, 6), (6, 2), (6, 6)]
    straight = [(2, 4), (6, 4), (4, 2), (4, 6)]
    told = []
    for choices in itertools.product(CENTRE_CHOICES, repeat=4):
        slanted = {round_by_hand(centre)[k] for centre, chosen in zip(centres, choices) for k in chosen}
        for count in range(5):
            for chosen in itertools.combinations(straight, count):
                edges = slanted | set(chosen)
                if not is_barred_by_hand(edges, (4, 4)):
                    told.append(sorted(edges))
    return told


def good_sheets():
    """Sheets without barred corners, of many sizes, with open marks."""
    chance = Chance(20)
    told = [open_sheet(2, 2, edges) for edges in small_good_creases()[::9]]
    for wide, high in [(1, 1), (2, 1), (1, 3), (3, 2), (3, 3), (5, 4)]:
        for spread in (4, 8, 12, 16, 30, 60):
            told.append(open_sheet(wide, high, some_good_creases(wide, high, chance, spread)))
    told += [open_sheet(wide, high, []) for wide, high in [(1, 1), (6, 1), (6, 6)]]
    told += [all_creased(wide, high) for wide, high in [(1, 1), (1, 6), (3, 3), (6, 6)]]
    return told


def mirrored_by_hand(place, edge):
    """Point 8."""
    x, y = place
    i, j = edge
    return {
        "L": (x, 2 * j - y), "U": (2 * i - x, y), "F": (y + i - j, x - i + j), "R": (i + j - y, i + j - x),
    }[signs_of(edge)]


def led_by_hand(laying, place):
    a, b, c, d, e, f = laying
    x, y = place
    return (a * x + b * y + e, c * x + d * y + f)


def with_behind(layings, behind):
    """All these layings with one and the same laying behind each."""
    told = {}
    for quarter, laying in layings.items():
        start, right, down = [led_by_hand(behind, led_by_hand(laying, place)) for place in [(0, 0), (1, 0), (0, 1)]]
        told[quarter] = (
            right[0] - start[0], down[0] - start[0], right[1] - start[1], down[1] - start[1], start[0], start[1],
        )
    return told


# Turned, moved, turned over, far off.
BEHIND = [
    (0, -1, 1, 0, 8, 0), (-1, 0, 0, 1, 0, 0), (0, 1, 1, 0, 4, -4), (1, 0, 0, 1, 4 * 10 ** 59, -4 * 10 ** 59),
    (-1, 0, 0, -1, 8, 8), (0, -1, -1, 0, 4, 4),
]


def hand_by_hand(place, edge):
    sign = signs_of(edge)
    number, own = [
        {"L": y, "U": x, "F": x - y, "R": x + y}[sign] for x, y in (edge, place)
    ]
    return (own > number) - (own < number)


def folded_by_hand(wide, high, folds):
    """Layings and piles behind folds (edge, ahead, over), as point 29 tells them; None where one is refused."""
    layings = {quarter: (1, 0, 0, 1, 0, 0) for quarter in quarters_by_hand(wide, high)}
    piles = {quarter: [quarter] for quarter in layings}
    for edge, ahead, over in folds:
        side = 1 if ahead else -1
        if {hand_by_hand(place, edge) for place in piles} != {1, -1}:
            return None
        start, right, down = [mirrored_by_hand(place, edge) for place in [(0, 0), (1, 0), (0, 1)]]
        mirror = (
            right[0] - start[0], down[0] - start[0], right[1] - start[1], down[1] - start[1], start[0], start[1],
        )
        moved = {quarter for place, pile in piles.items() if hand_by_hand(place, edge) == side for quarter in pile}
        turned = with_behind({quarter: layings[quarter] for quarter in moved}, mirror)
        coming = {
            mirrored_by_hand(place, edge): pile[::-1]
            for place, pile in piles.items() if hand_by_hand(place, edge) == side
        }
        piles = {place: list(pile) for place, pile in piles.items() if hand_by_hand(place, edge) == -side}
        for place, pile in coming.items():
            there = piles.get(place, [])
            piles[place] = there + pile if over else pile + there
        layings.update(turned)
    return layings, piles


def sheet_by_hand(wide, high, layings, piles):
    """The sheet of a folding, by points 26 and 30."""
    marks = {}
    for edge in edges_by_hand(wide, high):
        one, other = sides_by_hand(edge)
        if layings[one] == layings[other]:
            continue
        a, b, c, d = layings[one][:4]
        turned, straight = (one, other) if a * d - b * c == -1 else (other, one)
        pile = piles[led_by_hand(layings[one], one)]
        marks[edge] = "v" if pile.index(turned) > pile.index(straight) else "h"
    return sheet(wide, high, marks)


def some_folds(wide, high, count, chance):
    """Folds, as chance will, none of which is refused; perhaps fewer than count."""
    folds = []
    layings, piles = folded_by_hand(wide, high, folds)
    for unused in range(count * 8):
        xs, ys = zip(*piles)
        near = [
            (x, y) for x in range(min(xs) - 1, max(xs) + 2) for y in range(min(ys) - 1, max(ys) + 2)
            if signs_of((x, y)) in "LUFR"
        ]
        fold = (chance.one_of(near), chance.below(2) == 0, chance.below(2) == 0)
        done = folded_by_hand(wide, high, folds + [fold])
        if done is not None and len(folds) < count:
            folds.append(fold)
            layings, piles = done
    return folds


def some_foldings():
    """Tuples (wide, high, folds, layings, piles, sheet) of foldings as chance will."""
    chance = Chance(29)
    told = []
    for wide, high in [(1, 1), (2, 1), (1, 2), (2, 2), (3, 2), (2, 4), (4, 4), (6, 5)]:
        for count in (1, 2, 3, 5):
            folds = some_folds(wide, high, count, chance)
            layings, piles = folded_by_hand(wide, high, folds)
            told.append((wide, high, folds, layings, piles, sheet_by_hand(wide, high, layings, piles)))
    return told


def marked_at_chance(sheet, chance, bound=2):
    """The sheet with some of its marks made h or v, as chance will."""
    creases = [(edge, chance.one_of("hv") if not chance.below(bound) else "o") for edge, mark in sheet[2]]
    return (sheet[0], sheet[1], tuple(creases))


def heights_by_hand(piles):
    return {quarter: height for pile in piles.values() for height, quarter in enumerate(pile)}


def crossing_by_hand(sheet, layings, piles):
    """Point 25, pair by pair, case by case."""
    wide, high, creases = sheet
    marked = dict(creases)
    height = heights_by_hand(piles)
    laid_at = {}
    sides = {}
    for edge in edges_by_hand(wide, high):
        sides[edge] = [(quarter, led_by_hand(layings[quarter], quarter)) for quarter in sides_by_hand(edge)]
        laid_at[edge] = led_by_hand(layings[sides[edge][0][0]], edge)

    def between(quarter, one, other):
        return min(height[one], height[other]) < height[quarter] < max(height[one], height[other])

    for edge, other in itertools.combinations(sorted(laid_at), 2):
        if laid_at[edge] != laid_at[other]:
            continue
        if edge in marked and other in marked:
            (s, at), (s2, at2) = sides[edge]
            (t, there), (t2, there2) = sides[other]
            assert at == at2 and there == there2
            if at == there and between(t, s, s2) != between(t2, s, s2):
                return (edge, other)
        elif edge in marked or other in marked:
            crease, plain = (edge, other) if edge in marked else (other, edge)
            (s, at), (s2, at2) = sides[crease]
            (t,) = [quarter for quarter, place in sides[plain] if place == at]
            if between(t, s, s2):
                return (edge, other)
        else:
            (s, at), (s2, at2) = sides[edge]
            (t,) = [quarter for quarter, place in sides[other] if place == at]
            (t2,) = [quarter for quarter, place in sides[other] if place == at2]
            if (height[s] < height[t]) != (height[s2] < height[t2]):
                return (edge, other)
    return None


def marks_by_hand(sheet, layings, piles):
    told = []
    height = heights_by_hand(piles)
    for edge, mark in sheet[2]:
        one, other = sides_by_hand(edge)
        a, b, c, d = layings[one][:4]
        turned, straight = (one, other) if a * d - b * c == -1 else (other, one)
        told.append((edge, "v" if height[turned] > height[straight] else "h"))
    return told


def stacks_by_hand(layings):
    told = {}
    for quarter in sorted(layings):
        told.setdefault(led_by_hand(layings[quarter], quarter), []).append(quarter)
    return told


def some_piles(layings, chance):
    return {place: chance.shuffled(quarters) for place, quarters in stacks_by_hand(layings).items()}


def piles_by_faces(layings, faces, order):
    """Piles in which faces lie in this order, from the lowest up, wherever they share a place."""
    rank = {quarter: order.index(number) for number, face in enumerate(faces) for quarter in face}
    return {
        place: sorted(quarters, key=lambda quarter: rank[quarter])
        for place, quarters in stacks_by_hand(layings).items()
    }


# One square wider than sheets are made: there, and on no sheet of up to 6 squares each way, ties alone
# make a round, a hexagon with one corner of an eighth and five of three eighths of a turn.
HEXAGON = open_sheet(7, 5, [
    (1, 7), (1, 9), (3, 5), (3, 11), (4, 2), (5, 5), (5, 13), (6, 4), (7, 7), (7, 15), (9, 9), (9, 17), (10, 4),
    (11, 11), (11, 19), (13, 13), (13, 19), (14, 4), (15, 15), (15, 17), (16, 18), (18, 4), (18, 16), (20, 2),
    (20, 18), (21, 3), (21, 5), (21, 15), (21, 17), (23, 1), (23, 7), (23, 13), (23, 19), (24, 10), (25, 7),
    (25, 13), (26, 8), (26, 12), (27, 5), (27, 15),
])


def ties_by_hand(sheet):
    told = []
    for corner in corners_by_hand(sheet[0], sheet[1]):
        creases = [edge for edge in round_by_hand(corner) if edge in dict(sheet[2])]
        count = len(creases)
        around = round_by_hand(corner)
        at = [around.index(edge) * 8 // len(around) for edge in creases]
        gaps = [(at[(k + 1) % count] - at[k] - 1) % 8 + 1 for k in range(count)]
        found = [(creases[0], creases[1], True)] if count == 2 else []
        for k in range(count):
            if count >= 4 and gaps[k] < gaps[k - 1] and gaps[k] < gaps[(k + 1) % count]:
                found.append((creases[k], creases[(k + 1) % count], False))
                if count == 4:
                    found.append((creases[k - 2], creases[k - 1], True))
        told += [(min(one, other), max(one, other), alike, corner) for one, other, alike in found]
    return sorted(set(told))


def is_chain(sheet, steps):
    """Whether each step is a tie, or one with its edges exchanged, and begins where the one ahead leads."""
    told = ties_by_hand(sheet)
    for edge, other, alike, corner in steps:
        if (min(edge, other), max(edge, other), alike, corner) not in told:
            return False
    return all(ahead[1] == behind[0] for ahead, behind in zip(steps, steps[1:]))


def tells_alike(steps):
    return sum(not step[2] for step in steps) % 2 == 0


def is_round(sheet, steps):
    """Point 22."""
    if type(steps) is not list or not steps or not is_chain(sheet, steps):
        return False
    marks = dict(sheet[2])
    begin, end = steps[0][0], steps[-1][1]
    if begin == end:
        return not tells_alike(steps)
    if "o" in (marks[begin], marks[end]):
        return False
    return (marks[begin] == marks[end]) != tells_alike(steps)


class Papers:
    """Follows papers to all their ends, by point 28; the faces are handed in."""

    def __init__(self, sheet, layings, faces):
        self.marks = dict(sheet[2])
        self.layings = layings
        self.edges = edges_by_hand(sheet[0], sheet[1])
        self.face = {quarter: number for number, face in enumerate(faces) for quarter in face}
        self.at = {}
        for quarter, laying in layings.items():
            self.at.setdefault(led_by_hand(laying, quarter), []).append(self.face[quarter])
        self.ends = {"ring": 0, "cross": 0, "mark": 0, "split": 0}

    def holds(self, paper, taken=frozenset()):
        if type(paper) is not tuple or paper[0] not in self.ends:
            return False
        self.ends[paper[0]] += 1
        return getattr(self, "holds_" + paper[0])(taken, *paper[1:])

    def holds_split(self, taken, f, g, below, above):
        share = f != g and any(f in there and g in there for there in self.at.values())
        if not share or (f, g) in taken or (g, f) in taken:
            return False
        return self.holds(below, taken | {(f, g)}) and self.holds(above, taken | {(g, f)})

    def holds_ring(self, taken, place, f, g, h):
        there = self.at.get(place, [])
        return {f, g, h} <= set(there) and {(f, g), (g, h), (h, f)} <= taken

    def holds_mark(self, taken, edge):
        one, other = sides_by_hand(edge)
        a, b, c, d = self.layings[one][:4]
        turned, straight = (one, other) if a * d - b * c == -1 else (other, one)
        low, high = (straight, turned) if self.marks[edge] == "h" else (turned, straight)
        return self.marks[edge] in ("h", "v") and (self.face[low], self.face[high]) in taken

    def sides_at(self, edge):
        """The edge at which it is laid, and its two quarters' places and faces."""
        sides = [(led_by_hand(self.layings[quarter], quarter), self.face[quarter]) for quarter in sides_by_hand(edge)]
        return led_by_hand(self.layings[sides_by_hand(edge)[0]], edge), sides

    def holds_cross(self, taken, edge, other):
        if not (edge < other and edge in self.edges and other in self.edges):
            return False
        (where, ours), (there, theirs) = self.sides_at(edge), self.sides_at(other)
        if where != there:
            return False
        if edge in self.marks and other in self.marks:
            if ours[0][0] != theirs[0][0]:
                return False
            ends, amid = [face for place, face in ours], [face for place, face in theirs]
        elif edge in self.marks or other in self.marks:
            crease, plain = (ours, theirs) if edge in self.marks else (theirs, ours)
            ends = [face for place, face in crease]
            amid = [face for place, face in plain if place == crease[0][0]]
        else:
            return False
        between = 0
        for face in amid:
            for end in ends:
                if ((face, end) in taken) == ((end, face) in taken):
                    return False
            between += ((ends[0], face) in taken) != ((ends[1], face) in taken)
        return between == 1
