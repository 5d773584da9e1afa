"""Point 20, with 2 to 4: layings of quarters, stacks, and edges laid at edges."""

import unittest

import samples
from creasecourt.errors import Barred, CreaseError
from creasecourt.laid import edges_laid, laid, stacks
from creasecourt.layings import STILL, mirror_in, then
from creasecourt.sheets import sheet_of

GOOD_SHEETS = samples.good_sheets()


class Point20(unittest.TestCase):
    def test_layings_agree_at_each_inner_edge(self):
        for sheet in GOOD_SHEETS:
            layings = laid(sheet)
            quarters = samples.quarters_by_hand(sheet[0], sheet[1])
            self.assertEqual(sorted(layings), quarters)
            self.assertEqual(layings[quarters[0]], (1, 0, 0, 1, 0, 0))
            marked = dict(sheet[2])
            for edge in samples.edges_by_hand(sheet[0], sheet[1]):
                one, other = samples.sides_by_hand(edge)
                if edge not in marked:
                    self.assertEqual(layings[one], layings[other])
                    continue
                self.assertEqual(layings[one], then(mirror_in(edge), layings[other]))
                self.assertEqual(layings[other], then(mirror_in(edge), layings[one]))
                for place in [(0, 0), (3, 5), (-2, 7)]:
                    self.assertEqual(
                        samples.led_by_hand(layings[one], samples.mirrored_by_hand(place, edge)),
                        samples.led_by_hand(layings[other], place),
                    )

    def test_marks_do_not_matter(self):
        for mark in "hv":
            for sheet in GOOD_SHEETS[::5]:
                marked = (sheet[0], sheet[1], tuple((edge, mark) for edge, other in sheet[2]))
                self.assertEqual(laid(marked), laid(sheet))

    def test_by_hand(self):
        still = laid(sheet_of(2, 2, []))
        self.assertEqual(set(still.values()), {STILL})
        halved = laid(sheet_of(1, 1, [((1, 1), "h"), ((3, 3), "h")]))
        self.assertEqual(
            halved,
            {(1, 2): STILL, (2, 3): STILL, (2, 1): (0, 1, 1, 0, 0, 0), (3, 2): (0, 1, 1, 0, 0, 0)},
        )
        upright = laid(sheet_of(2, 1, [((4, 2), "v")]))
        self.assertEqual(upright[(1, 2)], STILL)
        self.assertEqual(upright[(7, 2)], (-1, 0, 0, 1, 8, 0))

    def test_barred_sheets_are_refused(self):
        chance = samples.Chance(21)
        refused = 0
        for wide, high in [(1, 1), (2, 2), (3, 2), (6, 6)]:
            for bound in (2, 4, 12, 40):
                edges = [edge for edge in samples.edges_by_hand(wide, high) if not chance.below(bound)]
                corner = samples.first_barred_by_hand(wide, high, edges)
                if corner is not None:
                    refused += 1
                    with self.assertRaises(CreaseError) as taken:
                        laid(samples.open_sheet(wide, high, edges))
                    self.assertIs(type(taken.exception), Barred)
                    self.assertEqual(taken.exception.corner, corner)
        self.assertGreater(refused, 8)

    def test_several_barred_corners(self):
        with self.assertRaises(Barred) as taken:
            laid(samples.open_sheet(2, 2, [(6, 4), (2, 4), (7, 5), (5, 1)]))
        self.assertEqual(taken.exception.corner, (6, 2))


def edges_laid_by_hand(sheet, layings):
    told = {}
    for edge in samples.edges_by_hand(sheet[0], sheet[1]):
        one, other = samples.sides_by_hand(edge)
        place = samples.led_by_hand(layings[one], edge)
        assert place == samples.led_by_hand(layings[other], edge)
        told.setdefault(place, []).append(edge)
    return told


class StacksAndEdges(unittest.TestCase):
    def test_of_sheets_and_with_one_laying_behind_each(self):
        for number, sheet in enumerate(GOOD_SHEETS):
            layings = laid(sheet)
            behind = samples.BEHIND[number % len(samples.BEHIND)]
            for such in (layings, samples.with_behind(layings, behind)):
                self.assertEqual(stacks(such), samples.stacks_by_hand(such))
                self.assertEqual(edges_laid(sheet, such), edges_laid_by_hand(sheet, such))

    def test_of_foldings_whatever_the_marks(self):
        for wide, high, folds, layings, piles, sheet in samples.some_foldings():
            opened = samples.open_sheet(wide, high, dict(sheet[2]))
            self.assertEqual(stacks(layings), {place: sorted(pile) for place, pile in piles.items()})
            for such in (layings, samples.with_behind(layings, samples.BEHIND[0])):
                self.assertEqual(stacks(such), samples.stacks_by_hand(such))
                self.assertEqual(edges_laid(sheet, such), edges_laid_by_hand(sheet, such))
                self.assertEqual(edges_laid(opened, such), edges_laid_by_hand(sheet, such))

    def test_layings_of_a_folding_are_those_of_its_sheet_but_for_one_behind_each(self):
        for wide, high, folds, layings, piles, sheet in samples.some_foldings():
            first = min(layings)
            self.assertEqual(samples.with_behind(laid(sheet), layings[first]), layings)

    def test_the_order_of_the_dict_handed_in_does_not_matter(self):
        sheet = samples.all_creased(2, 2)
        layings = laid(sheet)
        turned = {quarter: layings[quarter] for quarter in sorted(layings, reverse=True)}
        for place, quarters in stacks(turned).items():
            self.assertEqual(quarters, sorted(quarters))
        self.assertEqual(stacks(turned), stacks(layings))
        self.assertEqual(edges_laid(sheet, turned), edges_laid(sheet, layings))

    def test_by_hand(self):
        sheet = sheet_of(1, 1, [((1, 1), "h"), ((3, 3), "h")])
        self.assertEqual(stacks(laid(sheet)), {(1, 2): [(1, 2), (2, 1)], (2, 3): [(2, 3), (3, 2)]})
        self.assertEqual(
            edges_laid(sheet, laid(sheet)),
            {(1, 1): [(1, 1)], (1, 3): [(1, 3), (3, 1)], (3, 3): [(3, 3)]},
        )
        flat = sheet_of(1, 1, [])
        self.assertEqual(stacks(laid(flat)), {place: [place] for place in samples.quarters_by_hand(1, 1)})
        self.assertEqual(edges_laid(flat, laid(flat)), {place: [place] for place in samples.edges_by_hand(1, 1)})

    def test_all_creased_come_to_one_place(self):
        sheet = samples.all_creased(6, 6)
        self.assertEqual(stacks(laid(sheet)), {(1, 2): samples.quarters_by_hand(6, 6)})
        self.assertEqual(len(edges_laid(sheet, laid(sheet))), 3)


class Point2(unittest.TestCase):
    def test_told_dicts_and_lists_are_the_askers_own(self):
        sheet = sheet_of(2, 1, [((4, 2), "v")])
        layings = laid(sheet)
        kept = dict(layings)
        for ask in (lambda: stacks(layings), lambda: edges_laid(sheet, layings)):
            told = ask()
            self.assertIs(type(told), dict)
            before = {place: list(there) for place, there in told.items()}
            first = min(told)
            self.assertIs(type(told[first]), list)
            told[first].append("more")
            told["more"] = 1
            self.assertEqual(ask(), before)
        self.assertEqual(layings, kept)
        layings.clear()
        self.assertEqual(laid(sheet), kept)
        again = laid(sheet)
        again[(1, 2)] = "changed"
        self.assertEqual(laid(sheet), kept)


if __name__ == "__main__":
    unittest.main()
