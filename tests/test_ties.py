"""Points 21 and 23, with 2: ties."""

import itertools
import unittest

import samples
from creasecourt.corners import creases_at, gaps_at
from creasecourt.crimps import all_marks
from creasecourt.errors import Barred, CreaseError
from creasecourt.faces import faces
from creasecourt.laid import laid
from creasecourt.piles import crossing, marks_by
from creasecourt.sheets import corners_in, sheet_of
from creasecourt.ties import ties

GOOD_SHEETS = samples.good_sheets()

# Round (4, 4) the gaps are 1, 2, 3, 2: an eighth to a quarter of a turn on both its sides.
BIRD = [(6, 4), (5, 5), (7, 7), (3, 5), (1, 7), (4, 2)]


class Point21(unittest.TestCase):
    def test_all_ties_of_many_sheets(self):
        seen = {}
        for sheet in GOOD_SHEETS + [samples.HEXAGON]:
            told = ties(sheet)
            self.assertEqual(told, samples.ties_by_hand(sheet))
            for tie in told:
                seen[tie[2]] = True
        self.assertEqual(set(seen), {True, False})

    def test_ties_are_just_what_all_rows_of_marks_have(self):
        for sheet in GOOD_SHEETS[:60]:
            told = ties(sheet)
            for corner in corners_in(sheet[0], sheet[1]):
                creases = creases_at(sheet, corner)
                if not creases:
                    continue
                rows = all_marks(gaps_at(sheet, corner))
                forced = []
                for one, other in itertools.combinations(range(len(creases)), 2):
                    alike = {row[one] == row[other] for row in rows}
                    if len(alike) == 1:
                        edges = sorted([creases[one], creases[other]])
                        forced.append((edges[0], edges[1], alike.pop(), corner))
                self.assertEqual([tie for tie in told if tie[3] == corner], sorted(forced))

    def test_two_creases(self):
        sheet = samples.open_sheet(1, 1, [(1, 1), (3, 3)])
        self.assertEqual(ties(sheet), [((1, 1), (3, 3), True, (2, 2))])
        self.assertIs(ties(sheet)[0][2], True)
        self.assertEqual(ties(sheet_of(2, 1, [((4, 2), "h")])), [])

    def test_four_creases_with_a_gap_less_than_both_neighbours(self):
        self.assertEqual(
            ties(samples.open_sheet(2, 2, BIRD)),
            [
                ((1, 7), (3, 5), True, (2, 6)),
                ((3, 5), (4, 2), True, (4, 4)),
                ((5, 5), (6, 4), False, (4, 4)),
                ((5, 5), (7, 7), True, (6, 6)),
            ],
        )

    def test_four_creases_with_gaps_alike(self):
        cross = samples.open_sheet(2, 2, [(6, 4), (2, 4), (4, 2), (4, 6)])
        self.assertEqual(ties(cross), [])
        # Gaps 1, 1, 3, 3: the least ones are alike to a neighbour.
        fan = samples.open_sheet(2, 2, [(6, 4), (5, 5), (7, 7), (4, 6), (3, 3), (1, 1)])
        self.assertEqual([tie for tie in ties(fan) if tie[3] == (4, 4)], [])

    def test_six_and_eight_creases(self):
        six = [(6, 4), (2, 4), (5, 5), (7, 7), (3, 3), (1, 1), (5, 3), (7, 1), (3, 5), (1, 7)]
        for sheet in (samples.open_sheet(2, 2, six), samples.all_creased(2, 2), samples.all_creased(6, 6)):
            self.assertEqual([tie for tie in ties(sheet) if tie[3] == (4, 4)], [])
        self.assertEqual(ties(samples.all_creased(6, 6)), [])

    def test_marks_do_not_matter(self):
        chance = samples.Chance(5)
        for sheet in GOOD_SHEETS[::4]:
            self.assertEqual(ties(samples.marked_at_chance(sheet, chance)), ties(sheet))

    def test_barred_sheets_are_refused(self):
        for edges in ([(1, 1)], [(2, 4), (7, 5)], BIRD[1:], [(6, 4), (2, 4), (7, 5)]):
            with self.assertRaises(CreaseError) as taken:
                ties(samples.open_sheet(2, 2, edges))
            self.assertIs(type(taken.exception), Barred)
            self.assertEqual(taken.exception.corner, samples.first_barred_by_hand(2, 2, edges))

    def test_told_lists_are_the_askers_own(self):
        sheet = samples.open_sheet(2, 2, BIRD)
        told = ties(sheet)
        kept = list(told)
        self.assertIs(type(told), list)
        self.assertIs(type(told[0]), tuple)
        told.pop()
        told[0] = "changed"
        self.assertEqual(ties(sheet), kept)


class Point23(unittest.TestCase):
    def test_ties_hold_in_piles_in_which_nothing_crosses(self):
        held = 0
        for edges in samples.small_good_creases():
            sheet = samples.open_sheet(2, 2, edges)
            parts = faces(sheet)
            told = ties(sheet)
            if len(parts) > 5 or not any(tie[2] is False for tie in told):
                continue
            layings = laid(sheet)
            for order in itertools.permutations(range(len(parts))):
                piles = samples.piles_by_faces(layings, parts, list(order))
                if crossing(sheet, layings, piles) is None:
                    marks = dict(marks_by(sheet, layings, piles))
                    for edge, other, alike, corner in told:
                        held += 1
                        self.assertEqual(marks[edge] == marks[other], alike)
        self.assertGreater(held, 20)


if __name__ == "__main__":
    unittest.main()
