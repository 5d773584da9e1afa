"""Points 29 and 30, with 2 to 4: foldings."""

import unittest

import samples
from creasecourt.court import verdict
from creasecourt.errors import CreaseError, NoFold, NoSize
from creasecourt.faces import faces
from creasecourt.folding import Folding
from creasecourt.piles import are_piles, crossing, keeps
from creasecourt.sheets import sheet_of


def told_by(folding):
    return (folding.layings(), folding.piles(), folding.sheet(), folding.many())


def folded(wide, high, folds):
    folding = Folding(wide, high)
    for edge, ahead, over in folds:
        folding.fold(edge, ahead, over)
    return folding


class Point29(unittest.TestCase):
    def refused(self, kind, ask, *handed_in):
        with self.assertRaises(CreaseError) as taken:
            ask(*handed_in)
        self.assertIs(type(taken.exception), kind)

    def test_begun(self):
        for wide in range(1, 7):
            for high in range(1, 7):
                folding = Folding(wide, high)
                quarters = samples.quarters_by_hand(wide, high)
                self.assertEqual(folding.layings(), {quarter: (1, 0, 0, 1, 0, 0) for quarter in quarters})
                self.assertEqual(folding.piles(), {quarter: [quarter] for quarter in quarters})
                self.assertEqual(folding.sheet(), (wide, high, ()))
                self.assertEqual(folding.many(), 0)

    def test_no_size(self):
        for thing in samples.STRANGE + [0, 7, -1, samples.SIXTY]:
            self.refused(NoSize, Folding, thing, 1)
            self.refused(NoSize, Folding, 1, thing)

    def test_one_fold_by_hand(self):
        for ahead, over, upper, mark in (
            (True, True, 1, "v"), (True, False, 0, "h"), (False, True, 0, "v"), (False, False, 1, "h"),
        ):
            folding = Folding(2, 1)
            self.assertIsNone(folding.fold((4, 2), ahead, over))
            piles = folding.piles()
            shift = 0 if ahead else 4
            self.assertEqual(
                sorted(piles), [(x + shift, y) for x, y in [(1, 2), (2, 1), (2, 3), (3, 2)]],
            )
            for pile in piles.values():
                self.assertEqual([quarter[0] // 4 for quarter in pile], [1 - upper, upper])
            self.assertEqual(folding.sheet(), (2, 1, (((4, 2), mark),)))
            self.assertEqual(folding.many(), 1)
            moved = (7, 2) if ahead else (1, 2)
            still = (1, 2) if ahead else (7, 2)
            self.assertEqual(folding.layings()[moved], (-1, 0, 0, 1, 8, 0))
            self.assertEqual(folding.layings()[still], (1, 0, 0, 1, 0, 0))

    def test_ahead_and_over_unless_told_otherwise(self):
        one = Folding(2, 1)
        one.fold((4, 2))
        self.assertEqual(told_by(one), told_by(folded(2, 1, [((4, 2), True, True)])))
        other = Folding(2, 1)
        other.fold(over=False, edge=(4, 2))
        self.assertEqual(told_by(other), told_by(folded(2, 1, [((4, 2), True, False)])))
        third = Folding(2, 1)
        third.fold((4, 2), ahead=False)
        self.assertEqual(told_by(third), told_by(folded(2, 1, [((4, 2), False, True)])))

    def test_piles_are_turned_about(self):
        folding = folded(4, 1, [((8, 2), True, True), ((4, 2), True, True)])
        self.assertEqual(folding.piles()[(1, 2)], [(1, 2), (15, 2), (9, 2), (7, 2)])
        folding = folded(4, 1, [((8, 2), True, True), ((4, 2), True, False)])
        self.assertEqual(folding.piles()[(1, 2)], [(9, 2), (7, 2), (1, 2), (15, 2)])

    def test_piles_come_to_places_where_nothing_lies(self):
        folding = folded(3, 1, [((4, 2), False, True)])
        self.assertEqual(folding.piles()[(5, 2)], [(5, 2), (3, 2)])
        self.assertEqual(folding.piles()[(9, 2)], [(9, 2)])
        folding = folded(3, 1, [((8, 2), False, True)])
        self.assertEqual(folding.piles()[(15, 2)], [(1, 2)])
        self.assertEqual(folding.piles()[(11, 2)], [(11, 2), (5, 2)])

    def test_many_foldings_by_hand(self):
        for wide, high, folds, layings, piles, sheet in samples.some_foldings():
            folding = folded(wide, high, folds)
            self.assertEqual(folding.layings(), layings)
            self.assertEqual(folding.piles(), piles)
            self.assertEqual(folding.sheet(), sheet)
            self.assertEqual(folding.many(), len(folds))

    def test_edges_of_each_line(self):
        for edge in [(2, 4), (4, 2), (1, 1), (3, 3), (3, 1), (1, 3), (7, 5), (-2, 4), (4, 90), (-3, -3), (-1, 5)]:
            for ahead in (True, False):
                for over in (True, False):
                    expected = samples.folded_by_hand(2, 2, [(edge, ahead, over)])
                    folding = folded(2, 2, [(edge, ahead, over)])
                    self.assertEqual((folding.layings(), folding.piles()), expected)

    def test_far_off_on_the_same_line(self):
        far = 4 * 10 ** 59
        for near, away in (((4, 2), (4, far + 2)), ((2, 4), (2 - far, 4)), ((1, 1), (far + 1, far + 1)),
                           ((3, 5), (3 + far, 5 - far))):
            self.assertEqual(told_by(folded(2, 2, [(away, True, True)])), told_by(folded(2, 2, [(near, True, True)])))

    def test_nothing_lies_at_the_one_side_or_the_other(self):
        far = 4 * 10 ** 59
        edges = [(0, 2), (8, 2), (2, 0), (2, 8), (-4, 2), (12, 2), (2, -4), (2, 12), (far, 2), (-far, 2), (2, far),
                 (-1, 1), (9, 7), (9, 1), (-1, 7), (far + 1, 1), (1, far + 3), (7, -1), (5, -3)]
        for edge in edges:
            for ahead in (True, False):
                for over in (True, False):
                    with self.subTest(edge=edge, ahead=ahead):
                        folding = folded(2, 2, [])
                        before = told_by(folding)
                        self.assertIsNone(samples.folded_by_hand(2, 2, [(edge, ahead, over)]))
                        self.refused(NoFold, folding.fold, edge, ahead, over)
                        self.assertEqual(told_by(folding), before)

    def test_a_refused_fold_changes_nothing(self):
        folding = folded(2, 1, [((4, 2), True, True)])
        before = told_by(folding)
        self.refused(NoFold, folding.fold, (4, 2))
        self.refused(NoFold, folding.fold, (4, 2), False)
        self.assertEqual(told_by(folding), before)
        folding.fold((1, 1))
        self.assertEqual(folding.many(), 2)

    def test_back(self):
        folding = Folding(2, 2)
        self.refused(NoFold, folding.back)
        folds = [((4, 2), True, True), ((2, 4), False, False), ((5, 3), True, True)]
        seen = [told_by(folding)]
        for edge, ahead, over in folds:
            folding.fold(edge, ahead, over)
            seen.append(told_by(folding))
        self.assertEqual(len(seen), 4)
        for expected in seen[-2::-1]:
            self.assertIsNone(folding.back())
            self.assertEqual(told_by(folding), expected)
        self.refused(NoFold, folding.back)
        self.assertEqual(told_by(folding), seen[0])

    def test_a_fold_behind_one_that_was_taken_back(self):
        folding = folded(3, 2, [((4, 2), True, True), ((2, 4), True, True)])
        folding.back()
        folding.fold((3, 1), False, False)
        self.assertEqual(
            told_by(folding), told_by(folded(3, 2, [((4, 2), True, True), ((3, 1), False, False)])),
        )
        folding.back()
        folding.back()
        self.refused(NoFold, folding.back)
        folding.fold((8, 2))
        self.assertEqual(told_by(folding), told_by(folded(3, 2, [((8, 2), True, True)])))

    def test_twelve_folds_and_more(self):
        folding = Folding(6, 6)
        done = 0
        edges = [(4 * k, 2) for k in range(1, 6)] + [(2, 4 * k) for k in range(1, 6)] + [(1, 1), (3, 1)]
        folds = []
        for edge in edges:
            if samples.folded_by_hand(6, 6, folds + [(edge, False, True)]) is not None:
                folds.append((edge, False, True))
                folding.fold(edge, False, True)
                done += 1
        self.assertGreaterEqual(done, 10)
        layings, piles = samples.folded_by_hand(6, 6, folds)
        self.assertEqual((folding.layings(), folding.piles(), folding.many()), (layings, piles, done))


class Point30(unittest.TestCase):
    def test_sheets_piles_and_layings_agree(self):
        chance = samples.Chance(30)
        for wide, high in [(1, 1), (2, 2), (3, 1), (4, 3), (6, 6)]:
            for unused in range(4):
                folding = folded(wide, high, samples.some_folds(wide, high, 6, chance))
                layings, piles, sheet, many = told_by(folding)
                self.assertIs(are_piles(layings, piles), True)
                self.assertIsNone(crossing(sheet, layings, piles))
                self.assertIsNone(samples.crossing_by_hand(sheet, layings, piles))
                self.assertIs(keeps(sheet, layings, piles), True)
                self.assertEqual(sheet, sheet_of(wide, high, list(sheet[2])))
                self.assertEqual(sheet, samples.sheet_by_hand(wide, high, layings, piles))
                if len(faces(sheet)) <= 9:
                    self.assertEqual(verdict(sheet)[0], "folds")

    def test_the_first_quarters_laying_is_told_as_it_came(self):
        folding = folded(1, 1, [((1, 1), False, True)])
        self.assertEqual(folding.layings()[(1, 2)], (0, 1, 1, 0, 0, 0))
        self.assertEqual(folding.sheet(), (1, 1, (((1, 1), "v"), ((3, 3), "v"))))

    def test_marks_of_two_folds(self):
        folding = folded(2, 2, [((4, 2), True, True), ((2, 4), True, True)])
        self.assertEqual(
            folding.sheet(),
            (2, 2, (((2, 4), "v"), ((4, 2), "v"), ((4, 6), "v"), ((6, 4), "h"))),
        )


class Point2(unittest.TestCase):
    def test_told_dicts_are_the_askers_own(self):
        folding = folded(2, 1, [((4, 2), True, True)])
        before = told_by(folding)
        layings = folding.layings()
        layings[(1, 2)] = "changed"
        layings.pop((7, 2))
        piles = folding.piles()
        piles[(1, 2)].append("more")
        piles[(3, 2)].clear()
        piles.pop((2, 1))
        self.assertEqual(told_by(folding), before)
        kept = folding.piles()
        again = {place: list(pile) for place, pile in kept.items()}
        folding.fold((1, 1))
        self.assertEqual(kept, again)
        folding.back()
        self.assertEqual(told_by(folding), before)

    def test_changed_ahead_of_a_fold(self):
        folding = Folding(2, 1)
        folding.piles()[(1, 2)].append("more")
        folding.layings().clear()
        folding.fold((4, 2))
        self.assertEqual(told_by(folding), told_by(folded(2, 1, [((4, 2), True, True)])))

    def test_foldings_do_not_share_anything(self):
        one = Folding(2, 1)
        other = Folding(2, 1)
        one.fold((4, 2))
        self.assertEqual((one.many(), other.many()), (1, 0))
        self.assertEqual(other.sheet(), (2, 1, ()))


if __name__ == "__main__":
    unittest.main()
