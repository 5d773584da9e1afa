"""What the orders of faces must keep to: which faces share places, and which orders can't be taken together.

An order is a tuple (f, g): the face f lies below the face g. A bar is a tuple (orders, end): all of these orders
together can't be, and the end of a paper says why.
"""

from creasecourt.faces import faces
from creasecourt.laid import edges_laid, stacks
from creasecourt.piles import joined_at, turned_first


def numbers_of(sheet):
    numbers = {}
    for number, face in enumerate(faces(sheet)):
        for quarter in face:
            numbers[quarter] = number
    return numbers


# The numbers of the faces at each place, in order.
def faces_at(sheet, layings):
    numbers = numbers_of(sheet)
    told = {}
    for place, quarters in stacks(layings).items():
        told[place] = sorted([numbers[quarter] for quarter in quarters])
    return told


def pairs_among(things):
    told = []
    for k, thing in enumerate(things):
        told.extend([(thing, other) for other in things[k + 1:]])
    return told


def pairs(sheet, layings):
    found = {}
    for there in faces_at(sheet, layings).values():
        for pair in pairs_among(there):
            found[pair] = True
    return sorted(found)


def ring_bar(place, f, g, h):
    return (((f, g), (g, h), (h, f)), ("ring", place, f, g, h))


def ring_bars(sheet, layings):
    told = []
    for place, there in faces_at(sheet, layings).items():
        for k, f in enumerate(there):
            for g, h in pairs_among(there[k + 1:]):
                told.append(ring_bar(place, f, g, h))
                told.append(ring_bar(place, f, h, g))
    return told


# The two ways in which a face lies between two others.
def amid(ends, face):
    return [((ends[0], face), (face, ends[1])), ((ends[1], face), (face, ends[0]))]


# The two ways in which it lies below both, or above both.
def aside(ends, face):
    return [((face, ends[0]), (face, ends[1])), ((ends[0], face), (ends[1], face))]


def both_of(some, others):
    told = []
    for orders in some:
        told.extend([orders + more for more in others])
    return told


# All orders by which just one of these faces, one or two, lies between the two ends.
def crossing_orders(ends, between):
    if len(between) == 1:
        return amid(ends, between[0])
    one = both_of(amid(ends, between[0]), aside(ends, between[1]))
    return one + both_of(aside(ends, between[0]), amid(ends, between[1]))


# A crease has two faces at one side of the edge at which it is laid; what else lies there may cross it.
def orders_at(ours, theirs):
    for here, there in zip(ours, theirs):
        if len(here) == 2 and there:
            return crossing_orders(here, there)
        if len(there) == 2 and here:
            return crossing_orders(there, here)
    return []


def faces_joined(numbers, edge, layings, place):
    told = []
    for quarters in joined_at(edge, layings, place):
        told.append([numbers[quarter] for quarter in quarters])
    return told


def cross_bars(sheet, layings):
    numbers = numbers_of(sheet)
    told = []
    for place, edges in edges_laid(sheet, layings).items():
        joined = [(edge, faces_joined(numbers, edge, layings, place)) for edge in edges]
        for one, other in pairs_among(joined):
            end = ("cross", one[0], other[0])
            told.extend([(orders, end) for orders in orders_at(one[1], other[1])])
    return told


def mark_bars(sheet, layings):
    numbers = numbers_of(sheet)
    told = []
    for edge, mark in sheet[2]:
        turned = [numbers[quarter] for quarter in turned_first(layings, edge)]
        if mark == "v":
            told.append((((turned[0], turned[1]),), ("mark", edge)))
        if mark == "h":
            told.append((((turned[1], turned[0]),), ("mark", edge)))
    return told


# Many edges tell the same bar; one of them is enough.
def all_bars(sheet, layings):
    ends = {}
    for orders, end in mark_bars(sheet, layings) + cross_bars(sheet, layings) + ring_bars(sheet, layings):
        ends.setdefault(tuple(sorted(orders)), end)
    return list(ends.items())
