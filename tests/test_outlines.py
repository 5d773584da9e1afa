"""Point 31, with 2: outlines of piles."""

import unittest

import samples
from creasecourt.folding import Folding
from creasecourt.laid import laid, stacks
from creasecourt.outlines import outline
from creasecourt.sheets import sheet_of


def outline_by_hand(piles):
    xs = sorted({x for x, y in piles})
    ys = sorted({y for x, y in piles})
    rows = []
    for y in range(ys[0], ys[-1] + 1):
        row = ""
        for x in range(xs[0], xs[-1] + 1):
            if (x, y) in piles:
                row += str(len(piles[(x, y)])) if len(piles[(x, y)]) < 10 else "#"
            else:
                row += "." if samples.signs_of((x, y)) == "Q" else " "
        rows.append(row)
    return "\n".join(rows)


def strip_at_one_place(count):
    """So many quarters come to one place, of a strip of squares all creased."""
    sheet = samples.all_creased(6, 1)
    quarters = samples.quarters_by_hand(6, 1)[:count]
    layings = laid(sheet)
    return stacks({quarter: layings[quarter] for quarter in quarters})


class Point31(unittest.TestCase):
    def test_by_hand(self):
        flat = sheet_of(1, 1, [])
        self.assertEqual(outline(stacks(laid(flat))), " 1 \n1 1\n 1 ")
        halved = samples.open_sheet(1, 1, [(1, 1), (3, 3)])
        self.assertEqual(outline(stacks(laid(halved))), "2 \n 2")
        folding = Folding(2, 1)
        self.assertEqual(outline(folding.piles()), " 1   1 \n1 1 1 1\n 1   1 ")
        folding.fold((4, 2))
        self.assertEqual(outline(folding.piles()), " 2 \n2 2\n 2 ")

    def test_places_at_which_none_lies(self):
        folding = Folding(2, 2)
        folding.fold((3, 5), True)
        self.assertEqual(outline(folding.piles()), " 2   2\n2 2 2 \n 2   .\n      \n 2   .\n2 . . ")
        alone = {(1, 2): [(1, 2)], (6, 5): [(6, 5), (2, 1)]}
        self.assertEqual(outline(alone), outline_by_hand(alone))
        self.assertEqual(outline(alone), "1 . . \n .   .\n      \n .   2")

    def test_one_nine_and_ten_quarters(self):
        for count, sign in [(1, "1"), (2, "2"), (8, "8"), (9, "9"), (10, "#"), (11, "#"), (24, "#")]:
            self.assertEqual(outline(strip_at_one_place(count)), sign)
        self.assertEqual(outline(stacks(laid(samples.all_creased(6, 6)))), "#")

    def test_below_nought_and_far_off(self):
        layings = laid(samples.open_sheet(3, 2, [(4, 2), (4, 6)]))
        near = outline(stacks(layings))
        for behind in [(1, 0, 0, 1, -40, -80), (1, 0, 0, 1, 4 * 10 ** 59, -4 * 10 ** 59)]:
            self.assertEqual(outline(stacks(samples.with_behind(layings, behind))), near)

    def test_many_foldings(self):
        for wide, high, folds, layings, piles, sheet in samples.some_foldings():
            self.assertEqual(outline(piles), outline_by_hand(piles))

    def test_what_is_handed_in_stays(self):
        piles = {(1, 2): [(1, 2)], (6, 5): [(6, 5), (2, 1)]}
        outline(piles)
        self.assertEqual(piles, {(1, 2): [(1, 2)], (6, 5): [(6, 5), (2, 1)]})


if __name__ == "__main__":
    unittest.main()
