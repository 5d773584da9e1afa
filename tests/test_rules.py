"""Point 28, as far as it lies with rules, with 2: all pairs of faces that share a place."""

import itertools
import unittest

import samples
from creasecourt.faces import faces
from creasecourt.laid import laid
from creasecourt.rules import pairs
from creasecourt.sheets import sheet_of


def pairs_by_hand(sheet, layings):
    told = []
    places = [
        {samples.led_by_hand(layings[quarter], quarter) for quarter in face} for face in faces(sheet)
    ]
    for (f, ours), (g, theirs) in itertools.combinations(enumerate(places), 2):
        if ours & theirs:
            told.append((f, g))
    return told


class Pairs(unittest.TestCase):
    def test_of_many_sheets(self):
        for number, sheet in enumerate(samples.good_sheets()):
            if len(faces(sheet)) > 60:
                continue
            layings = laid(sheet)
            expected = pairs_by_hand(sheet, layings)
            self.assertEqual(pairs(sheet, layings), expected)
            behind = samples.with_behind(layings, samples.BEHIND[number % 6])
            self.assertEqual(pairs(sheet, behind), expected)

    def test_of_foldings(self):
        for wide, high, folds, layings, piles, sheet in samples.some_foldings():
            self.assertEqual(pairs(sheet, layings), pairs_by_hand(sheet, layings))

    def test_by_hand(self):
        self.assertEqual(pairs(sheet_of(2, 2, []), laid(sheet_of(2, 2, []))), [])
        halved = samples.open_sheet(1, 1, [(1, 1), (3, 3)])
        self.assertEqual(pairs(halved, laid(halved)), [(0, 1)])
        # Only the second and the third square come to lie over one another, and the first and the fourth apart.
        strip = samples.open_sheet(5, 1, [(8, 2), (12, 2)])
        self.assertEqual(pairs(strip, laid(strip)), [(0, 1), (0, 2), (1, 2)])
        apart = samples.open_sheet(6, 1, [(4, 2), (8, 2), (16, 2), (20, 2)])
        self.assertEqual(
            pairs(apart, laid(apart)),
            [(0, 1), (0, 2), (1, 2), (2, 3), (2, 4), (3, 4)],
        )

    def test_told_lists_are_the_askers_own(self):
        halved = samples.open_sheet(1, 1, [(1, 1), (3, 3)])
        layings = laid(halved)
        before = dict(layings)
        told = pairs(halved, layings)
        self.assertIs(type(told), list)
        self.assertIs(type(told[0]), tuple)
        told.append((5, 6))
        self.assertEqual(pairs(halved, layings), [(0, 1)])
        self.assertEqual(layings, before)


if __name__ == "__main__":
    unittest.main()
