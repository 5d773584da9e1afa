"""Places of the plane: what each one is, what stands beside it and round it, and mirrors in edges."""

# How much farther than a corner its edges and quarters lie, from the right downward;
# quarter k is the one between edge k and the next.
EIGHT_EDGES = ((2, 0), (1, 1), (0, 2), (-1, 1), (-2, 0), (-1, -1), (0, -2), (1, -1))
EIGHT_QUARTERS = ((2, 1), (1, 2), (-1, 2), (-2, 1), (-2, -1), (-1, -2), (1, -2), (2, -1))
FOUR_EDGES = ((1, 1), (-1, 1), (-1, -1), (1, -1))
FOUR_QUARTERS = ((0, 1), (-1, 0), (0, -1), (1, 0))

# From an edge to its greater end; the lesser end is as far the other way.
HALF_EDGE = {"level": (2, 0), "upright": (0, 2), "falling": (1, 1), "rising": (1, -1)}


# To Python True and False are ints too; here they are no whole numbers.
def is_whole(value):
    return isinstance(value, int) and not isinstance(value, bool)


def is_place(value):
    return isinstance(value, tuple) and len(value) == 2 and is_whole(value[0]) and is_whole(value[1])


def is_corner(place):
    return place[0] % 2 == 0 and place[0] % 4 == place[1] % 4


def is_edge(place):
    if place[0] % 2 == 1:
        return place[1] % 2 == 1
    return place[1] % 2 == 0 and place[0] % 4 != place[1] % 4


def is_quarter(place):
    if place[0] % 2 == 1:
        return place[1] % 4 == 2
    return place[0] % 4 == 2 and place[1] % 2 == 1


def line_of(edge):
    if edge[0] % 2 == 1:
        return "falling" if edge[0] % 4 == edge[1] % 4 else "rising"
    return "level" if edge[1] % 4 == 0 else "upright"


def ends_of(edge):
    half = HALF_EDGE[line_of(edge)]
    return [(edge[0] - half[0], edge[1] - half[1]), (edge[0] + half[0], edge[1] + half[1])]


# The order of these four is the order in which sides and edges are told.
def beside(place):
    x = place[0]
    y = place[1]
    return [(x - 1, y), (x, y - 1), (x, y + 1), (x + 1, y)]


def sides_of(edge):
    return [place for place in beside(edge) if is_quarter(place)]


def edges_of(quarter):
    return [place for place in beside(quarter) if is_edge(place)]


def corners_of(quarter):
    ends = []
    for edge in edges_of(quarter):
        ends.extend(ends_of(edge))
    return sorted(set(ends))


def moved_by(place, steps):
    return [(place[0] + step[0], place[1] + step[1]) for step in steps]


def edges_round(corner):
    return moved_by(corner, EIGHT_EDGES if corner[0] % 4 == 0 else FOUR_EDGES)


def quarters_round(corner):
    return moved_by(corner, EIGHT_QUARTERS if corner[0] % 4 == 0 else FOUR_QUARTERS)


def number_by(line, place):
    if line == "level":
        return place[1]
    if line == "upright":
        return place[0]
    if line == "falling":
        return place[0] - place[1]
    return place[0] + place[1]


def hand_of(place, edge):
    line = line_of(edge)
    ahead = number_by(line, place) - number_by(line, edge)
    if ahead > 0:
        return 1
    return -1 if ahead < 0 else 0


def mirrored(place, edge):
    x = place[0]
    y = place[1]
    line = line_of(edge)
    number = number_by(line, edge)
    if line == "level":
        return (x, 2 * number - y)
    if line == "upright":
        return (2 * number - x, y)
    if line == "falling":
        return (y + number, x - number)
    return (number - y, number - x)
