"""Point 19, with 2: the creases round the inner corners of a sheet, their gaps, and barred corners."""

import itertools
import unittest

import samples
from creasecourt.corners import barred, creases_at, gaps_at
from creasecourt.sheets import sheet_of


def some_sheets():
    chance = samples.Chance(19)
    for wide, high in [(1, 1), (2, 1), (1, 2), (2, 2), (3, 2), (4, 5), (6, 6)]:
        yield sheet_of(wide, high, [])
        yield samples.all_creased(wide, high)
        for bound in (2, 3, 9):
            marks = {
                edge: chance.one_of("hvo") for edge in samples.edges_by_hand(wide, high) if not chance.below(bound)
            }
            yield samples.sheet(wide, high, marks)


def gaps_by_hand(edges, corner):
    around = samples.round_by_hand(corner)
    at = [k * 8 // len(around) for k, edge in enumerate(around) if edge in edges]
    return [(later - k - 1) % 8 + 1 for k, later in zip(at, at[1:] + at[:1])]


class Point19(unittest.TestCase):
    def test_creases_and_gaps_of_all_inner_corners(self):
        for sheet in some_sheets():
            edges = dict(sheet[2])
            for corner in samples.corners_by_hand(sheet[0], sheet[1]):
                with self.subTest(corner=corner):
                    creases = [edge for edge in samples.round_by_hand(corner) if edge in edges]
                    self.assertEqual(creases_at(sheet, corner), creases)
                    self.assertEqual(gaps_at(sheet, corner), gaps_by_hand(edges, corner))

    def test_all_sets_of_creases_round_a_corner_of_eight(self):
        around = samples.round_by_hand((4, 4))
        for chosen in itertools.product([False, True], repeat=8):
            edges = [edge for edge, taken in zip(around, chosen) if taken]
            sheet = samples.open_sheet(2, 2, edges)
            self.assertEqual(creases_at(sheet, (4, 4)), edges)
            gaps = gaps_at(sheet, (4, 4))
            self.assertEqual(gaps, gaps_by_hand(edges, (4, 4)))
            self.assertEqual(sum(gaps), 8 if edges else 0)
            self.assertEqual(len(gaps), len(edges))

    def test_by_hand(self):
        none = sheet_of(2, 2, [])
        self.assertEqual(creases_at(none, (4, 4)), [])
        self.assertEqual(gaps_at(none, (4, 4)), [])
        self.assertEqual(gaps_at(none, (2, 2)), [])
        one = sheet_of(2, 2, [((3, 3), "h")])
        self.assertEqual(creases_at(one, (4, 4)), [(3, 3)])
        self.assertEqual(gaps_at(one, (4, 4)), [8])
        self.assertEqual(gaps_at(one, (2, 2)), [8])
        two = sheet_of(2, 2, [((3, 3), "h"), ((1, 1), "v")])
        self.assertEqual(creases_at(two, (2, 2)), [(3, 3), (1, 1)])
        self.assertEqual(gaps_at(two, (2, 2)), [4, 4])
        self.assertEqual(gaps_at(samples.open_sheet(1, 1, [(1, 1), (3, 1)]), (2, 2)), [2, 6])
        self.assertEqual(gaps_at(samples.open_sheet(1, 1, [(3, 3), (3, 1)]), (2, 2)), [6, 2])
        self.assertEqual(gaps_at(samples.open_sheet(2, 2, [(6, 4), (3, 3), (5, 3)]), (4, 4)), [5, 2, 1])
        everything = samples.all_creased(2, 2)
        self.assertEqual(gaps_at(everything, (4, 4)), [1] * 8)
        self.assertEqual(gaps_at(everything, (2, 2)), [2] * 4)

    def test_all_marks_count_alike(self):
        for mark in "hvo":
            self.assertEqual(gaps_at(sheet_of(1, 1, [((1, 1), mark), ((3, 3), mark)]), (2, 2)), [4, 4])

    def test_the_first_barred_corner(self):
        self.assertIsNone(barred(sheet_of(3, 3, [])))
        self.assertIsNone(barred(samples.all_creased(6, 6)))
        for sheet in some_sheets():
            expected = samples.first_barred_by_hand(sheet[0], sheet[1], dict(sheet[2]))
            self.assertEqual(barred(sheet), expected)

    def test_which_is_told_where_there_are_several(self):
        edges = [(3, 3), (6, 4), (2, 4), (7, 5)]
        sheet = samples.open_sheet(2, 2, edges)
        self.assertEqual(barred(sheet), (2, 2))
        self.assertEqual(barred(samples.open_sheet(2, 2, [(2, 4), (7, 5)])), (4, 4))
        self.assertEqual(barred(samples.open_sheet(2, 2, [(6, 4), (2, 4), (7, 5)])), (6, 6))
        self.assertEqual(barred(samples.open_sheet(2, 2, [(5, 1), (1, 7)])), (2, 6))

    def test_corners_on_the_border_do_not_bar(self):
        self.assertIsNone(barred(samples.open_sheet(2, 1, [(4, 2)])))
        self.assertIsNone(barred(samples.open_sheet(1, 1, [(1, 1), (3, 3)])))

    def test_gaps_that_are_not_good_bar(self):
        self.assertEqual(barred(samples.open_sheet(1, 1, [(1, 1)])), (2, 2))
        self.assertEqual(barred(samples.open_sheet(1, 1, [(1, 1), (3, 1)])), (2, 2))
        self.assertEqual(barred(samples.open_sheet(1, 1, [(1, 1), (3, 1), (1, 3)])), (2, 2))
        self.assertIsNone(barred(samples.open_sheet(1, 1, [(1, 1), (3, 1), (1, 3), (3, 3)])))
        self.assertIsNone(barred(samples.open_sheet(2, 2, [(6, 4), (2, 4), (4, 2), (4, 6)])))

    def test_told_lists_are_the_askers_own(self):
        sheet = sheet_of(1, 1, [((3, 3), "h"), ((1, 1), "v")])
        for ask in (creases_at, gaps_at):
            told = ask(sheet, (2, 2))
            self.assertIs(type(told), list)
            kept = list(told)
            told.append("more")
            told[0] = "changed"
            self.assertEqual(ask(sheet, (2, 2)), kept)
        empty = gaps_at(sheet_of(1, 1, []), (2, 2))
        empty.append(1)
        self.assertEqual(gaps_at(sheet_of(1, 1, []), (2, 2)), [])


if __name__ == "__main__":
    unittest.main()
