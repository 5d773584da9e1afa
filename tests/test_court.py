"""Points 27 and 28, with 2 to 4 and 23: verdicts, and what comes with each."""

import itertools
import unittest

import samples
from creasecourt.corners import barred
from creasecourt.court import verdict
from creasecourt.errors import CreaseError, TooMany
from creasecourt.faces import faces
from creasecourt.laid import laid
from creasecourt.piles import are_piles, crossing, keeps, marks_by
from creasecourt.sheets import sheet_of

# A strip whose last squares lie over the short one between its two creases: with marks alike it is shut.
LONG_SHORT_LONG = samples.sheet(5, 1, {(8, 2): "v", (12, 2): "v"})


def few_faces(sheet):
    return len(faces(sheet)) <= 9


def many_sheets():
    """Sheets without barred corners, of at most nine faces, with marks as chance will."""
    chance = samples.Chance(27)
    told = []
    for edges in samples.small_good_creases()[::5]:
        told.append(samples.open_sheet(2, 2, edges))
    for wide, high in [(1, 1), (3, 1), (5, 1), (6, 1), (3, 2), (3, 3), (4, 3), (5, 5), (6, 6)]:
        for spread in (6, 8, 12, 16, 30):
            for unused in range(3):
                told.append(samples.open_sheet(wide, high, samples.some_good_creases(wide, high, chance, spread)))
    told = [sheet for sheet in told if few_faces(sheet)]
    return [samples.marked_at_chance(sheet, chance, bound) for sheet in told for bound in (1, 2, 5, 1000)]


def can_fold_by_hand(sheet):
    """All choices of orders for all pairs of faces that share places, looked through one by one."""
    layings = laid(sheet)
    parts = faces(sheet)
    number = {quarter: k for k, face in enumerate(parts) for quarter in face}
    stacks = samples.stacks_by_hand(layings)
    pairs = sorted({
        tuple(sorted([number[one], number[other]]))
        for quarters in stacks.values() for one, other in itertools.combinations(quarters, 2)
    })
    for choice in itertools.product([0, 1], repeat=len(pairs)):
        below = {pair if chosen else pair[::-1] for pair, chosen in zip(pairs, choice)}
        piles = {}
        for place, quarters in stacks.items():
            counted = {
                quarter: sum((number[other], number[quarter]) in below for other in quarters) for quarter in quarters
            }
            if len(set(counted.values())) == len(quarters):
                piles[place] = sorted(quarters, key=lambda quarter: counted[quarter])
        if len(piles) < len(stacks):
            continue
        kept = all(mark in ("o", by) for (edge, mark), (same, by) in zip(
            sheet[2], samples.marks_by_hand(sheet, layings, piles)))
        if kept and samples.crossing_by_hand(sheet, layings, piles) is None:
            return True
    return False


class Verdicts(unittest.TestCase):
    def held(self, sheet, told):
        """Whatever is told comes with what shows it."""
        layings = laid(sheet)
        self.assertIs(type(told), tuple)
        if told[0] == "round":
            self.assertEqual(len(told), 2)
            self.assertTrue(samples.is_round(sheet, told[1]))
        elif told[0] == "folds":
            kind, marks, piles = told
            self.assertIs(type(marks), list)
            self.assertIs(type(piles), dict)
            self.assertEqual(
                {place: sorted(pile) for place, pile in piles.items()}, samples.stacks_by_hand(layings),
            )
            self.assertIs(are_piles(layings, piles), True)
            self.assertEqual(marks, samples.marks_by_hand(sheet, layings, piles))
            self.assertEqual(marks, marks_by(sheet, layings, piles))
            self.assertTrue(all(mark in ("o", by) for (edge, mark), (same, by) in zip(sheet[2], marks)))
            self.assertIs(keeps(sheet, layings, piles), True)
            self.assertIsNone(samples.crossing_by_hand(sheet, layings, piles))
            self.assertIsNone(crossing(sheet, layings, piles))
        else:
            self.assertEqual((told[0], len(told)), ("shut", 2))
            papers = samples.Papers(sheet, layings, faces(sheet))
            self.assertTrue(papers.holds(told[1]), told[1])
            return papers.ends
        return {}

    def test_many_sheets(self):
        kinds = {}
        ends = {}
        for sheet in many_sheets():
            told = verdict(sheet)
            with self.subTest(sheet=sheet):
                for end, count in self.held(sheet, told).items():
                    ends[end] = ends.get(end, 0) + count
            kinds[told[0]] = kinds.get(told[0], 0) + 1
        self.assertEqual(set(kinds), {"folds", "round", "shut"})
        self.assertTrue(all(ends[end] for end in ("split", "ring", "cross", "mark")), ends)

    def test_small_sheets_against_all_choices(self):
        chance = samples.Chance(3)
        seen = {}
        chosen = [edges for edges in samples.small_good_creases() if len(edges) <= 8][::6]
        for edges in chosen:
            for bound in (1, 3):
                sheet = samples.marked_at_chance(samples.open_sheet(2, 2, edges), chance, bound)
                if len(faces(sheet)) <= 5:
                    folds = can_fold_by_hand(sheet)
                    told = verdict(sheet)
                    seen[told[0]] = True
                    self.assertEqual(told[0] == "folds", folds, sheet)
        for marks in itertools.product("hvo", repeat=2):
            sheet = samples.sheet(5, 1, {(8, 2): marks[0], (12, 2): marks[1]})
            self.assertEqual(verdict(sheet)[0] == "folds", can_fold_by_hand(sheet))
            seen[verdict(sheet)[0]] = True
        self.assertEqual(set(seen), {"folds", "round", "shut"})

    def test_barred(self):
        for edges in ([(1, 1)], [(2, 4), (7, 5)], [(6, 4), (2, 4), (7, 5)], [(3, 3), (6, 4), (2, 4), (7, 5)]):
            sheet = samples.open_sheet(2, 2, edges)
            self.assertEqual(verdict(sheet), ("barred", samples.first_barred_by_hand(2, 2, edges)))
            self.assertEqual(verdict(sheet), ("barred", barred(sheet)))

    def test_barred_comes_ahead_of_a_round(self):
        sheet = samples.sheet(2, 1, {(1, 1): "h", (3, 3): "v", (5, 1): "h"})
        self.assertEqual(verdict(sheet), ("barred", (6, 2)))

    def test_a_round_comes_ahead_of_shut(self):
        marks = dict(LONG_SHORT_LONG[2]) | {(1, 1): "h", (3, 3): "v"}
        told = verdict(samples.sheet(5, 1, marks))
        self.assertEqual(told, ("round", [((1, 1), (3, 3), True, (2, 2))]))

    def test_folds(self):
        flat = sheet_of(2, 1, [])
        self.assertEqual(verdict(flat), ("folds", [], {place: [place] for place in samples.quarters_by_hand(2, 1)}))
        for mark, piles in (
            ("v", {(1, 2): [(1, 2), (2, 1)], (2, 3): [(2, 3), (3, 2)]}),
            ("h", {(1, 2): [(2, 1), (1, 2)], (2, 3): [(3, 2), (2, 3)]}),
        ):
            sheet = samples.sheet(1, 1, {(1, 1): mark, (3, 3): "o"})
            self.assertEqual(verdict(sheet), ("folds", [((1, 1), mark), ((3, 3), mark)], piles))

    def test_shut(self):
        told = verdict(LONG_SHORT_LONG)
        self.assertEqual(told[0], "shut")
        self.held(LONG_SHORT_LONG, told)
        for one, other, kind in (("v", "v", "shut"), ("h", "h", "shut"), ("h", "v", "folds"), ("v", "h", "folds"),
                                 ("o", "v", "folds"), ("h", "o", "folds"), ("o", "o", "folds")):
            sheet = samples.sheet(5, 1, {(8, 2): one, (12, 2): other})
            self.assertEqual(verdict(sheet)[0], kind)
            self.held(sheet, verdict(sheet))

    def test_a_corner_whose_row_of_marks_does_not_fold_is_shut(self):
        for row in itertools.product("hv", repeat=4):
            sheet = samples.sheet(1, 1, dict(zip([(1, 1), (1, 3), (3, 1), (3, 3)], row)))
            folds = row.count("h") in (1, 3)
            self.assertEqual(verdict(sheet)[0], "folds" if folds else "shut")
            self.held(sheet, verdict(sheet))

    def test_one_nine_and_ten_faces(self):
        straight = [(4, 2), (8, 2), (12, 2), (16, 2), (20, 2)]
        halved = [[(4 * k + 1, 1), (4 * k + 3, 3)] for k in range(6)]
        nine = samples.open_sheet(6, 1, straight + halved[0] + halved[2] + halved[5])
        ten = samples.open_sheet(6, 1, straight + halved[0] + halved[2] + halved[5] + halved[3])
        self.assertEqual((len(faces(nine)), len(faces(ten))), (9, 10))
        self.assertEqual(verdict(nine)[0], "folds")
        self.held(nine, verdict(nine))
        self.refused(ten)
        self.assertEqual(verdict(sheet_of(6, 6, []))[0], "folds")
        for wide in range(1, 7):
            self.refused(samples.all_creased(6, wide))

    def refused(self, sheet):
        with self.assertRaises(CreaseError) as taken:
            verdict(sheet)
        self.assertIs(type(taken.exception), TooMany)

    def test_too_many_comes_ahead_of_all(self):
        straight = {(4 * k, 2): "h" for k in range(1, 6)}
        halved = {(4 * k + i, i): "h" for k in range(4) for i in (1, 3)}
        self.refused(samples.sheet(6, 1, straight | halved | {(1, 1): "v"}))
        self.refused(samples.sheet(6, 1, straight | halved | {(21, 1): "v"}))
        one_less = {edge: mark for edge, mark in (straight | halved).items() if edge[0] < 12 or edge[0] > 15}
        self.assertEqual(verdict(samples.sheet(6, 1, one_less | {(12, 2): "h", (21, 1): "v"})), ("barred", (22, 2)))

    def test_what_is_folded_simply_is_told_as_folding(self):
        asked = 0
        for wide, high, folds, layings, piles, sheet in samples.some_foldings():
            if few_faces(sheet):
                asked += 1
                opened = samples.open_sheet(wide, high, dict(sheet[2]))
                for such in (sheet, opened):
                    told = verdict(such)
                    self.assertEqual(told[0], "folds")
                    self.held(such, told)
                self.assertEqual(tuple(verdict(sheet)[1]), sheet[2])
        self.assertGreater(asked, 12)


class Point2(unittest.TestCase):
    def test_what_is_told_is_the_askers_own(self):
        folding = samples.sheet(1, 1, {(1, 1): "v", (3, 3): "o"})
        first = verdict(folding)
        kept = (list(first[1]), {place: list(pile) for place, pile in first[2].items()})
        first[1].clear()
        first[2][(1, 2)].append("more")
        first[2].pop((2, 3))
        self.assertEqual(verdict(folding), ("folds",) + kept)
        clash = samples.sheet(1, 1, {(1, 1): "v", (3, 3): "h"})
        steps = verdict(clash)[1]
        before = list(steps)
        steps.append("more")
        self.assertEqual(verdict(clash), ("round", before))


if __name__ == "__main__":
    unittest.main()
