"""What the orders of faces must keep to: which faces share places, and which orders can't be taken together."""

from creasecourt.faces import faces
from creasecourt.laid import stacks


def numbers_of(sheet):
    numbers = {}
    for number, face in enumerate(faces(sheet)):
        for quarter in face:
            numbers[quarter] = number
    return numbers


# The numbers of the faces at each place, in order.
def faces_at(sheet, layings):
    numbers = numbers_of(sheet)
    told = {}
    for place, quarters in stacks(layings).items():
        told[place] = sorted([numbers[quarter] for quarter in quarters])
    return told


def pairs(sheet, layings):
    found = {}
    for there in faces_at(sheet, layings).values():
        for k, face in enumerate(there):
            for other in there[k + 1:]:
                found[(face, other)] = True
    return sorted(found)
