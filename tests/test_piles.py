"""Points 24 to 26, with 2 to 4: piles, what crosses, and marks by piles."""

import itertools
import unittest

import samples
from creasecourt.faces import faces
from creasecourt.laid import laid
from creasecourt.piles import are_piles, crossing, keeps, marks_by
from creasecourt.sheets import sheet_of

GOOD_SHEETS = [sheet for sheet in samples.good_sheets() if len(sheet[2]) < 150]
TURN = {"h": "v", "v": "h"}


def strip(wide, creased, mark="o"):
    """A strip one square high, creased between squares at these numbers."""
    return samples.sheet(wide, 1, {(4 * k, 2): mark for k in creased})


def squares_piled(wide, sheet, order):
    """Piles of a strip in which the squares that come to one place lie in this order, from the lowest up."""
    layings = laid(sheet)
    told = samples.stacks_by_hand(layings)
    return layings, {
        place: sorted(quarters, key=lambda quarter: order.index(quarter[0] // 4)) for place, quarters in told.items()
    }


class Point24(unittest.TestCase):
    def test_piles_in_any_order(self):
        chance = samples.Chance(24)
        for number, sheet in enumerate(GOOD_SHEETS):
            layings = laid(sheet)
            if number % 2:
                layings = samples.with_behind(layings, samples.BEHIND[number % 6])
            self.assertIs(are_piles(layings, samples.stacks_by_hand(layings)), True)
            self.assertIs(are_piles(layings, samples.some_piles(layings, chance)), True)

    def test_piles_of_foldings(self):
        for wide, high, folds, layings, piles, sheet in samples.some_foldings():
            self.assertIs(are_piles(layings, piles), True)

    def test_dicts_that_are_no_piles(self):
        sheet = strip(3, [1])
        layings = laid(sheet)
        good = samples.stacks_by_hand(layings)
        self.assertIs(are_piles(layings, good), True)
        self.assertIs(are_piles(layings, {}), False)
        for place in good:
            rest = {other: pile for other, pile in good.items() if other != place}
            self.assertIs(are_piles(layings, rest), False)
            self.assertIs(are_piles(layings, rest | {place: []}), False)
            self.assertIs(are_piles(layings, rest | {place: good[place][1:]}), False)
            self.assertIs(are_piles(layings, rest | {place: good[place][:-1]}), False)
            self.assertIs(are_piles(layings, rest | {place: good[place] * 2}), False)
            self.assertIs(are_piles(layings, rest | {place: good[place][:1] + good[place]}), False)
            if len(good[place]) > 1:
                self.assertIs(are_piles(layings, rest | {place: good[place][:1] * len(good[place])}), False)
            self.assertIs(are_piles(layings, rest | {place: good[place] + [(9, 2)]}), False)
            self.assertIs(are_piles(layings, rest | {place: good[place] + [(-1, 2)]}), False)
            self.assertIs(are_piles(layings, good | {(place[0] + 40, place[1]): []}), False)
            self.assertIs(are_piles(layings, good | {(place[0] + 40, place[1]): good[place]}), False)
            moved = rest | {(place[0] + 40, place[1]): good[place]}
            self.assertIs(are_piles(layings, moved), False)
            for other in good:
                if other != place:
                    exchanged = good | {place: good[other], other: good[place]}
                    self.assertIs(are_piles(layings, exchanged), False)
                    self.assertIs(are_piles(layings, good | {place: good[place] + good[other][:1]}), False)
                    self.assertIs(
                        are_piles(layings, good | {place: good[place] + good[other][:1], other: good[other][1:]}),
                        False,
                    )
        self.assertIs(are_piles(layings, {(-1, -2): [(1, 2)]}), False)
        self.assertIs(are_piles(layings, {(0, 0): [], (1, 1): [(2, 2)]}), False)

    def test_piles_of_other_layings(self):
        sheet = strip(2, [1])
        layings = laid(sheet)
        behind = samples.with_behind(layings, samples.BEHIND[0])
        self.assertIs(are_piles(behind, samples.stacks_by_hand(layings)), False)
        self.assertIs(are_piles(layings, samples.stacks_by_hand(behind)), False)

    def test_what_is_handed_in_stays(self):
        layings = laid(strip(2, [1]))
        piles = {place: pile[::-1] for place, pile in samples.stacks_by_hand(layings).items()}
        before = {place: list(pile) for place, pile in piles.items()}
        kept = dict(layings)
        are_piles(layings, piles)
        self.assertEqual((layings, piles), (kept, before))


class Point25(unittest.TestCase):
    def test_neither_has_a_mark(self):
        sheet = samples.open_sheet(1, 1, [(1, 1), (3, 3)])
        layings = laid(sheet)
        for first in ([(1, 2), (2, 1)], [(2, 1), (1, 2)]):
            for second in ([(2, 3), (3, 2)], [(3, 2), (2, 3)]):
                alike = (first[0] == (1, 2)) == (second[0] == (2, 3))
                told = crossing(sheet, layings, {(1, 2): first, (2, 3): second})
                self.assertEqual(told, None if alike else ((1, 3), (3, 1)))

    def test_one_has_a_mark(self):
        # Of four squares the last two hang together, and lie over the crease between the first two.
        sheet = strip(4, [1, 2])
        for order in itertools.permutations([0, 1, 2]):
            layings, piles = squares_piled(4, sheet, list(order) + [3])
            amid = order[1] == 2
            self.assertEqual(crossing(sheet, layings, piles), ((4, 2), (12, 2)) if amid else None)
        # The other way round: the lesser edge has no mark.
        sheet = strip(4, [2, 3])
        for order in itertools.permutations([1, 2, 3]):
            layings, piles = squares_piled(4, sheet, list(order) + [0])
            amid = order[1] == 1
            self.assertEqual(crossing(sheet, layings, piles), ((4, 2), (12, 2)) if amid else None)

    def test_both_have_marks(self):
        sheet = strip(4, [1, 2, 3])
        crossed = 0
        for order in itertools.permutations([0, 1, 2, 3]):
            layings, piles = squares_piled(4, sheet, list(order))
            one = {order.index(0), order.index(1)}
            between = [k for k in (2, 3) if min(one) < order.index(k) < max(one)]
            expected = ((4, 2), (12, 2)) if len(between) == 1 else None
            crossed += len(between) == 1
            self.assertEqual(crossing(sheet, layings, piles), expected, order)
        self.assertEqual(crossed, 8)

    def test_at_unlike_sides_creases_do_not_cross(self):
        # The creases at 4 and at 20 are laid at one edge, with squares at its two sides.
        sheet = strip(6, [1, 2, 4, 5])
        told = set()
        for order in itertools.permutations(range(6)):
            layings, piles = squares_piled(6, sheet, list(order))
            expected = samples.crossing_by_hand(sheet, layings, piles)
            self.assertEqual(crossing(sheet, layings, piles), expected)
            told.add(expected)
        self.assertIn(None, told)
        self.assertNotIn(((4, 2), (20, 2)), told)
        self.assertIn(((4, 2), (12, 2)), told)
        self.assertIn(((12, 2), (20, 2)), told)

    def test_which_pair_is_told_where_several_cross(self):
        sheet = strip(6, [1, 2, 3, 4, 5])
        several = 0
        for order in list(itertools.permutations(range(6)))[::7]:
            layings, piles = squares_piled(6, sheet, list(order))
            height = {square: k for k, square in enumerate(order)}
            pairs = []
            for one, other in itertools.combinations(range(1, 6), 2):
                if (one - other) % 2 == 0:
                    low, high = sorted([height[one - 1], height[one]])
                    if (low < height[other - 1] < high) != (low < height[other] < high):
                        pairs.append(((4 * one, 2), (4 * other, 2)))
            several += len(pairs) > 1
            self.assertEqual(crossing(sheet, layings, piles), min(pairs, default=None))
        self.assertGreater(several, 10)

    def test_many_piles_by_hand(self):
        chance = samples.Chance(25)
        seen = {}
        for number, sheet in enumerate(GOOD_SHEETS):
            layings = laid(sheet)
            if number % 3 == 1:
                layings = samples.with_behind(layings, samples.BEHIND[number % 6])
            parts = faces(sheet)
            trials = [samples.some_piles(layings, chance), samples.stacks_by_hand(layings)]
            trials += [
                samples.piles_by_faces(layings, parts, chance.shuffled(range(len(parts)))) for unused in range(3)
            ]
            for piles in trials:
                expected = samples.crossing_by_hand(sheet, layings, piles)
                seen[expected is None] = True
                self.assertEqual(crossing(sheet, layings, piles), expected)
        self.assertEqual(set(seen), {True, False})

    def test_nothing_crosses_in_foldings(self):
        for wide, high, folds, layings, piles, sheet in samples.some_foldings():
            opened = samples.open_sheet(wide, high, dict(sheet[2]))
            turned = {place: pile[::-1] for place, pile in piles.items()}
            self.assertIsNone(crossing(sheet, layings, piles))
            self.assertIsNone(crossing(opened, layings, piles))
            self.assertIsNone(crossing(sheet, layings, turned))
            for place in sorted(piles)[::5]:
                if len(piles[place]) > 1:
                    changed = piles | {place: piles[place][1::-1] + piles[place][2:]}
                    self.assertEqual(
                        crossing(sheet, layings, changed), samples.crossing_by_hand(sheet, layings, changed),
                    )

    def test_without_creases_nothing_crosses(self):
        sheet = sheet_of(3, 2, [])
        self.assertIsNone(crossing(sheet, laid(sheet), samples.stacks_by_hand(laid(sheet))))


class Point26(unittest.TestCase):
    def test_by_hand(self):
        sheet = strip(2, [1])
        layings = laid(sheet)
        for upper, mark in ((1, "v"), (0, "h")):
            piles = {place: sorted(pile, key=lambda quarter: (quarter[0] // 4 == upper))
                     for place, pile in samples.stacks_by_hand(layings).items()}
            self.assertEqual(marks_by(sheet, layings, piles), [((4, 2), mark)])
            for told in "hvo":
                self.assertIs(keeps(strip(2, [1], told), layings, piles), told in ("o", mark))
            over = samples.with_behind(layings, (-1, 0, 0, 1, 0, 0))
            there = {(-x, y): pile for (x, y), pile in piles.items()}
            self.assertIs(are_piles(over, there), True)
            self.assertEqual(marks_by(sheet, over, there), [((4, 2), TURN[mark])])
            self.assertIs(keeps(strip(2, [1], mark), over, there), False)

    def test_many_piles(self):
        chance = samples.Chance(26)
        for number, sheet in enumerate(GOOD_SHEETS):
            layings = laid(sheet)
            if number % 3 == 1:
                layings = samples.with_behind(layings, samples.BEHIND[number % 6])
            piles = samples.some_piles(layings, chance)
            marks = samples.marks_by_hand(sheet, layings, piles)
            self.assertEqual(marks_by(sheet, layings, piles), marks)
            self.assertEqual(marks_by(samples.marked_at_chance(sheet, chance), layings, piles), marks)
            self.assertIs(keeps(sheet, layings, piles), True)
            kept = (sheet[0], sheet[1], tuple((edge, chance.one_of(mark + "o")) for edge, mark in marks))
            self.assertIs(keeps(kept, layings, piles), True)
            for k in range(0, len(marks), 5):
                edge, mark = marks[k]
                broken = kept[2][:k] + ((edge, TURN[mark]),) + kept[2][k + 1:]
                self.assertIs(keeps((sheet[0], sheet[1], broken), layings, piles), False)

    def test_foldings_keep_their_marks(self):
        for wide, high, folds, layings, piles, sheet in samples.some_foldings():
            self.assertIs(keeps(sheet, layings, piles), True)
            self.assertEqual(marks_by(sheet, layings, piles), list(sheet[2]))

    def test_without_creases(self):
        sheet = sheet_of(2, 2, [])
        layings = laid(sheet)
        piles = samples.stacks_by_hand(layings)
        self.assertEqual(marks_by(sheet, layings, piles), [])
        self.assertIs(keeps(sheet, layings, piles), True)


class Point2(unittest.TestCase):
    def test_what_is_handed_in_stays_and_told_lists_are_the_askers_own(self):
        sheet = strip(4, [1, 2, 3], "h")
        layings, piles = squares_piled(4, sheet, [2, 0, 3, 1])
        before = (dict(layings), {place: list(pile) for place, pile in piles.items()})
        told = marks_by(sheet, layings, piles)
        kept = list(told)
        self.assertIs(type(told), list)
        self.assertIs(type(told[0]), tuple)
        told.clear()
        pair = crossing(sheet, layings, piles)
        self.assertIs(type(pair), tuple)
        keeps(sheet, layings, piles)
        self.assertEqual(marks_by(sheet, layings, piles), kept)
        self.assertEqual((layings, piles), before)


if __name__ == "__main__":
    unittest.main()
