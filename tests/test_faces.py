"""Point 13, with 2: faces, their order and their numbers."""

import unittest

import samples
from creasecourt.faces import faces
from creasecourt.sheets import sheet_of


def faces_by_hand(sheet):
    """Quarters are put together edge by edge, until nothing more hangs together."""
    wide, high, creases = sheet
    marked = dict(creases)
    number = {quarter: k for k, quarter in enumerate(samples.quarters_by_hand(wide, high))}
    changed = True
    while changed:
        changed = False
        for edge in samples.edges_by_hand(wide, high):
            one, other = samples.sides_by_hand(edge)
            if edge not in marked and number[one] != number[other]:
                number[one] = number[other] = min(number[one], number[other])
                changed = True
    groups = {}
    for quarter in sorted(number):
        groups.setdefault(number[quarter], []).append(quarter)
    return sorted(groups.values())


class Point13(unittest.TestCase):
    def test_without_creases_there_is_one_face(self):
        for wide in range(1, 7):
            for high in range(1, 7):
                told = faces(sheet_of(wide, high, []))
                self.assertEqual(told, [samples.quarters_by_hand(wide, high)])

    def test_with_all_edges_creased_each_quarter_is_a_face(self):
        for wide in range(1, 7):
            for high in range(1, 7):
                told = faces(samples.all_creased(wide, high))
                self.assertEqual(told, [[quarter] for quarter in samples.quarters_by_hand(wide, high)])

    def test_one_square_halved(self):
        falling = samples.open_sheet(1, 1, [(1, 1), (3, 3)])
        self.assertEqual(faces(falling), [[(1, 2), (2, 3)], [(2, 1), (3, 2)]])
        rising = samples.open_sheet(1, 1, [(3, 1), (1, 3)])
        self.assertEqual(faces(rising), [[(1, 2), (2, 1)], [(2, 3), (3, 2)]])

    def test_the_order_goes_by_the_first_quarters(self):
        upright = samples.open_sheet(2, 1, [(4, 2)])
        self.assertEqual(
            faces(upright),
            [[(1, 2), (2, 1), (2, 3), (3, 2)], [(5, 2), (6, 1), (6, 3), (7, 2)]],
        )
        level = samples.open_sheet(1, 2, [(2, 4)])
        self.assertEqual(
            faces(level),
            [[(1, 2), (2, 1), (2, 3), (3, 2)], [(1, 6), (2, 5), (2, 7), (3, 6)]],
        )

    def test_faces_hang_together_round_a_corner(self):
        one_crease = samples.open_sheet(1, 1, [(1, 1)])
        self.assertEqual(faces(one_crease), [[(1, 2), (2, 1), (2, 3), (3, 2)]])
        around = samples.open_sheet(4, 4, samples.round_by_hand((8, 8)))
        self.assertEqual(faces(around), [samples.quarters_by_hand(4, 4)])
        ring = [(2, 4), (6, 4), (4, 2), (4, 6), (1, 1), (3, 3)]
        self.assertEqual(faces(samples.open_sheet(2, 2, ring))[0], [(1, 2), (2, 3)])
        self.assertEqual(faces(samples.open_sheet(2, 2, ring[1:]))[0], [(1, 2), (1, 6), (2, 3), (2, 5), (2, 7), (3, 6)])

    def test_every_mark_parts_alike(self):
        for mark in "hvo":
            self.assertEqual(len(faces(sheet_of(2, 1, [((4, 2), mark)]))), 2)

    def test_many_sheets_by_hand(self):
        chance = samples.Chance(13)
        for wide, high in [(1, 1), (2, 1), (1, 3), (2, 2), (3, 2), (4, 4), (6, 6)]:
            for bound in (2, 3, 5):
                marks = {
                    edge: chance.one_of("hvo") for edge in samples.edges_by_hand(wide, high)
                    if chance.below(bound)
                }
                sheet = samples.sheet(wide, high, marks)
                with self.subTest(sheet=sheet):
                    self.assertEqual(faces(sheet), faces_by_hand(sheet))

    def test_told_lists_are_the_askers_own(self):
        sheet = sheet_of(2, 1, [((4, 2), "h")])
        told = faces(sheet)
        kept = [list(face) for face in told]
        self.assertIs(type(told), list)
        self.assertIs(type(told[0]), list)
        told[0].append("more")
        told[1].clear()
        told.append("more")
        self.assertEqual(faces(sheet), kept)
        self.assertEqual(sheet, (2, 1, (((4, 2), "h"),)))


if __name__ == "__main__":
    unittest.main()
