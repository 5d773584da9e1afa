"""Point 22, with 2: rounds, marks carried, and ways to a crease."""

import unittest

import samples
from creasecourt.carried import carried, round_of, way_to
from creasecourt.errors import Barred, CreaseError
from creasecourt.sheets import sheet_of
from creasecourt.ties import ties

GOOD_SHEETS = samples.good_sheets()
TURN = {"h": "v", "v": "h"}

# Each square's falling creases go on in the next square's: a line over seven corners.
LINE = [(k, k) for k in range(1, 16, 2)]
BIRD = [(6, 4), (5, 5), (7, 7), (3, 5), (1, 7), (4, 2)]


def carried_by_hand(sheet):
    """Marks put on, tie by tie, until nothing changes; None where two marks come to one crease."""
    marks = dict(sheet[2])
    changed = True
    while changed:
        changed = False
        for edge, other, alike, corner in ties(sheet):
            for one, two in ((edge, other), (other, edge)):
                if marks[one] != "o":
                    due = marks[one] if alike else TURN[marks[one]]
                    if marks[two] == "o":
                        marks[two] = due
                        changed = True
                    elif marks[two] != due:
                        return None
    return sorted(marks.items())


def has_round_by_hand(sheet):
    """Open creases are tried with h: by ties alone, the choice of the mark makes no difference."""
    if carried_by_hand(sheet) is None:
        return True
    marks = dict(carried_by_hand(sheet))
    for edge in sorted(marks):
        if marks[edge] == "o":
            tried = carried_by_hand(samples.sheet(sheet[0], sheet[1], marks | {edge: "h"}))
            if tried is None:
                return True
            marks = dict(tried)
    return False


def sheets_with_marks():
    chance = samples.Chance(22)
    for bound in (2, 4, 9):
        for sheet in GOOD_SHEETS:
            if len(sheet[2]) < 120:
                yield samples.marked_at_chance(sheet, chance, bound)


class Rounds(unittest.TestCase):
    def test_a_round_is_told_where_there_is_one(self):
        seen = {}
        for sheet in sheets_with_marks():
            told = round_of(sheet)
            seen[told is not None] = True
            with self.subTest(sheet=sheet):
                if has_round_by_hand(sheet):
                    self.assertTrue(samples.is_round(sheet, told), told)
                else:
                    self.assertIsNone(told)
        self.assertEqual(set(seen), {True, False})

    def test_a_round_of_ties_alone(self):
        told = round_of(samples.HEXAGON)
        self.assertTrue(samples.is_round(samples.HEXAGON, told))
        self.assertEqual(told[0][0], told[-1][1])
        for edge in ((5, 5), (20, 2)):
            marks = dict(samples.HEXAGON[2])
            marks[edge] = "h"
            sheet = samples.sheet(7, 5, marks)
            self.assertTrue(samples.is_round(sheet, round_of(sheet)))

    def test_a_round_between_two_marked_creases(self):
        for one in "hv":
            sheet = samples.sheet(1, 1, {(1, 1): one, (3, 3): TURN[one]})
            self.assertTrue(samples.is_round(sheet, round_of(sheet)))
            self.assertEqual(len(round_of(sheet)), 1)
            self.assertIsNone(round_of(samples.sheet(1, 1, {(1, 1): one, (3, 3): one})))
            self.assertIsNone(round_of(samples.sheet(1, 1, {(1, 1): one, (3, 3): "o"})))
        self.assertIsNone(round_of(samples.sheet(1, 1, {(1, 1): "o", (3, 3): "o"})))

    def test_a_round_over_several_corners(self):
        marks = {edge: "o" for edge in LINE}
        marks[(1, 1)] = "h"
        marks[(15, 15)] = "v"
        sheet = samples.sheet(4, 4, marks)
        told = round_of(sheet)
        self.assertTrue(samples.is_round(sheet, told))
        self.assertEqual(len(told), 7)
        marks[(15, 15)] = "h"
        self.assertIsNone(round_of(samples.sheet(4, 4, marks)))

    def test_a_round_by_steps_that_are_not_alike(self):
        for one in "hv":
            for other in "hv":
                marks = {edge: "o" for edge in BIRD}
                marks[(6, 4)] = one
                marks[(7, 7)] = other
                sheet = samples.sheet(2, 2, marks)
                if one == other:
                    self.assertTrue(samples.is_round(sheet, round_of(sheet)))
                else:
                    self.assertIsNone(round_of(sheet))

    def test_without_creases(self):
        self.assertIsNone(round_of(sheet_of(3, 3, [])))


class Carried(unittest.TestCase):
    def test_marks_and_ways_of_many_sheets(self):
        asked = 0
        for sheet in sheets_with_marks():
            if has_round_by_hand(sheet):
                continue
            asked += 1
            told = carried(sheet)
            self.assertEqual(told, carried_by_hand(sheet))
            marks = dict(sheet[2])
            for edge, mark in told[::3]:
                way = way_to(sheet, edge)
                if mark == "o":
                    self.assertIsNone(way)
                elif marks[edge] != "o":
                    self.assertEqual(way, [])
                else:
                    self.assertIs(type(way), list)
                    self.assertTrue(way and samples.is_chain(sheet, way))
                    self.assertEqual(way[-1][1], edge)
                    begin = marks[way[0][0]]
                    self.assertIn(begin, ("h", "v"))
                    self.assertEqual(mark, begin if samples.tells_alike(way) else TURN[begin])
        self.assertGreater(asked, 60)

    def test_over_several_corners(self):
        marks = {edge: "o" for edge in LINE}
        marks[(5, 5)] = "v"
        sheet = samples.sheet(4, 4, marks)
        self.assertEqual(carried(sheet), [(edge, "v") for edge in LINE])
        self.assertEqual(
            way_to(sheet, (9, 9)),
            [((5, 5), (7, 7), True, (6, 6)), ((7, 7), (9, 9), True, (8, 8))],
        )
        self.assertEqual(
            way_to(sheet, (1, 1)),
            [((5, 5), (3, 3), True, (4, 4)), ((3, 3), (1, 1), True, (2, 2))],
        )
        self.assertEqual(way_to(sheet, (5, 5)), [])

    def test_turned_about_by_steps_that_are_not_alike(self):
        marks = {edge: "o" for edge in BIRD}
        marks[(6, 4)] = "h"
        sheet = samples.sheet(2, 2, marks)
        self.assertEqual(
            carried(sheet),
            [((1, 7), "o"), ((3, 5), "o"), ((4, 2), "o"), ((5, 5), "v"), ((6, 4), "h"), ((7, 7), "v")],
        )
        self.assertEqual(
            way_to(sheet, (7, 7)),
            [((6, 4), (5, 5), False, (4, 4)), ((5, 5), (7, 7), True, (6, 6))],
        )
        self.assertIsNone(way_to(sheet, (4, 2)))

    def test_creases_without_ties_keep_their_marks(self):
        sheet = sheet_of(3, 1, [((4, 2), "h"), ((8, 2), "o")])
        self.assertEqual(carried(sheet), [((4, 2), "h"), ((8, 2), "o")])
        self.assertEqual(way_to(sheet, (4, 2)), [])
        self.assertIsNone(way_to(sheet, (8, 2)))
        self.assertEqual(carried(sheet_of(3, 1, [])), [])


class Refusals(unittest.TestCase):
    def test_barred_sheets(self):
        for edges in ([(1, 1)], [(2, 4), (7, 5)], [(6, 4), (2, 4), (7, 5)]):
            sheet = samples.open_sheet(2, 2, edges)
            corner = samples.first_barred_by_hand(2, 2, edges)
            for ask in (round_of, carried, lambda sheet: way_to(sheet, edges[0])):
                with self.assertRaises(CreaseError) as taken:
                    ask(sheet)
                self.assertIs(type(taken.exception), Barred)
                self.assertEqual(taken.exception.corner, corner)


class Point2(unittest.TestCase):
    def test_told_lists_are_the_askers_own(self):
        marks = {edge: "o" for edge in LINE}
        marks[(5, 5)] = "v"
        sheet = samples.sheet(4, 4, marks)
        clash = samples.sheet(4, 4, marks | {(15, 15): "h"})
        for ask in (
            lambda: carried(sheet), lambda: way_to(sheet, (1, 1)), lambda: way_to(sheet, (5, 5)),
            lambda: round_of(clash),
        ):
            told = ask()
            kept = list(told)
            self.assertIs(type(told), list)
            told.append("more")
            told[0] = "changed"
            self.assertEqual(ask(), kept)


if __name__ == "__main__":
    unittest.main()
