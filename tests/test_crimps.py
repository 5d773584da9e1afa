"""Points 17 and 18, with 2 to 4: rows of marks that fold, one by one, all of them, and their number."""

import itertools
import math
import unittest

import samples
from creasecourt.crimps import all_marks, how_many, order_for
from creasecourt.errors import CreaseError, NoMark, NoRound
from creasecourt.wedges import is_good, marks_of, shut_at

BIG = samples.SIXTY

NOT_GOOD = [
    [], [1], [8], [1, 2], [1, 1, 1], [1, 2, 1, 1], [0, 0], [-1, -1], [1, 1, 0, 0], [1, 1, -1, -1], [1] * 7,
    [1] * 9, [1] * 10, [2, 1, 2, 3, 1, 1, 1, 1, 1, 1], [BIG, BIG - 1], [BIG, -BIG],
]

# With the least gaps side by side in every number, at the beginning, amid, and over the end.
EIGHT = [
    [1, 1, 1, 1, 1, 1, 1, 1], [BIG] * 8,
    [1, 2, 2, 2, 2, 2, 3, 2], [2, 1, 2, 2, 2, 2, 2, 3],
    [1, 1, 2, 2, 2, 2, 2, 2], [2, 1, 1, 2, 2, 2, 2, 2], [1, 2, 2, 2, 2, 2, 2, 1],
    [1, 1, 1, 2, 2, 2, 3, 2], [2, 1, 1, 1, 2, 3, 2, 2],
    [1, 1, 1, 1, 2, 2, 2, 2], [1, 1, 2, 2, 2, 2, 1, 1], [1, 1, 2, 3, 1, 1, 3, 2],
    [1, 1, 1, 1, 1, 2, 3, 2], [1, 2, 3, 2, 1, 1, 1, 1],
    [1, 1, 1, 1, 1, 1, 2, 2], [1, 1, 1, 2, 2, 1, 1, 1],
    [1, 3, 1, 3, 5, 1, 3, 3], [4, 1, 3, 2, 2, 5, 1, 2], [9, 1, 1, 9, 4, 4, 2, 2], [1, 2, 1, 2, 1, 2, 5, 2],
]


def rows_of(count):
    return ["".join(row) for row in itertools.product("hv", repeat=count)]


def good_gaps(count, most):
    return [list(gaps) for gaps in itertools.product(range(1, most + 1), repeat=count) if is_good(list(gaps))]


def marks_of_all_orders(gaps):
    """The rows of marks of all orders that nothing shuts, looked through one by one."""
    found = {}
    for order in itertools.permutations(range(len(gaps))):
        row = marks_of(gaps, list(order))
        if row not in found and shut_at(gaps, list(order)) is None:
            found[row] = True
    return sorted(found)


class AllOrders(unittest.TestCase):
    def held_against_all_orders(self, gaps):
        folding = marks_of_all_orders(gaps)
        self.assertEqual(all_marks(gaps), folding, gaps)
        self.assertEqual(how_many(gaps), len(folding), gaps)
        for row in rows_of(len(gaps)):
            order = order_for(gaps, row)
            if row in folding:
                self.assertEqual(sorted(order), list(range(len(gaps))))
                self.assertIsNone(shut_at(gaps, order), (gaps, row, order))
                self.assertEqual(marks_of(gaps, order), row)
            else:
                self.assertIsNone(order, (gaps, row))

    def test_two_wedges(self):
        for gaps in good_gaps(2, 3) + [[BIG, BIG]]:
            self.held_against_all_orders(gaps)

    def test_four_wedges(self):
        for gaps in good_gaps(4, 4) + [[BIG, 1, 1, BIG], [BIG, BIG - 1, BIG, BIG + 1], [BIG] * 4]:
            self.held_against_all_orders(gaps)

    def test_six_wedges(self):
        chosen = good_gaps(6, 3)[::7] + [[1] * 6, [1, 1, 1, 1, 2, 2], [1, 1, 1, 2, 3, 2], [1, 1, 2, 2, 2, 2]]
        for gaps in chosen + [[BIG, BIG - 1, BIG - 2, BIG, 3, 2]]:
            self.held_against_all_orders(gaps)


class ManyGaps(unittest.TestCase):
    def test_each_order_told_is_looked_through(self):
        for gaps in EIGHT:
            told = all_marks(gaps)
            self.assertEqual(how_many(gaps), len(told), gaps)
            self.assertEqual(told, sorted(told))
            for row in rows_of(8):
                order = order_for(gaps, row)
                self.assertEqual(order is not None, row in told)
                if order is not None:
                    self.assertIsNone(shut_at(gaps, order), (gaps, row, order))
                    self.assertEqual(marks_of(gaps, order), row)

    def test_rows_that_fold_and_their_numbers_by_turning_the_corner(self):
        for gaps in EIGHT:
            told = all_marks(gaps)
            # Begun two creases later, the same rows fold, begun two marks later.
            later = sorted(row[2:] + row[:2] for row in told)
            self.assertEqual(all_marks(gaps[2:] + gaps[:2]), later)
            for k in range(8):
                self.assertEqual(how_many(gaps[k:] + gaps[:k]), how_many(gaps))
            self.assertEqual(how_many(gaps[::-1]), how_many(gaps))

    def test_rows_that_fold_have_two_more_of_the_one_mark(self):
        for gaps in EIGHT + good_gaps(4, 3):
            for row in all_marks(gaps):
                self.assertEqual(abs(row.count("h") - row.count("v")), 2)
                other = row.replace("h", "x").replace("v", "h").replace("x", "v")
                self.assertIn(other, all_marks(gaps))


class ByHand(unittest.TestCase):
    def test_some(self):
        self.assertEqual(all_marks([5, 5]), ["hh", "vv"])
        self.assertEqual(order_for([5, 5], "vv"), [0, 1])
        self.assertEqual(order_for([5, 5], "hh"), [1, 0])
        self.assertIsNone(order_for([5, 5], "hv"))
        self.assertEqual(
            all_marks([1, 1, 1, 1]),
            ["hhhv", "hhvh", "hvhh", "hvvv", "vhhh", "vhvv", "vvhv", "vvvh"],
        )
        self.assertEqual(all_marks([1, 2, 3, 2]), ["hvhh", "hvvv", "vhhh", "vhvv"])
        self.assertEqual(how_many([1, 2, 3, 2]), 4)
        self.assertEqual(how_many([1, 1, 2, 2]), 6)

    def test_gaps_all_alike(self):
        for half in range(1, 5):
            expected = 2 * math.comb(2 * half, half - 1)
            for gap in (1, 7, BIG):
                self.assertEqual(how_many([gap] * (2 * half)), expected)
                self.assertEqual(len(all_marks([gap] * (2 * half))), expected)

    def test_lengths_alone_matter(self):
        for gaps in EIGHT:
            far = [gap * (BIG // 10) for gap in gaps]
            self.assertEqual(all_marks(far), all_marks(gaps))
            self.assertEqual(how_many(far), how_many(gaps))


class Refusals(unittest.TestCase):
    def refused(self, kind, ask, *handed_in):
        with self.assertRaises(CreaseError) as taken:
            ask(*handed_in)
        self.assertIs(type(taken.exception), kind)

    def test_no_round(self):
        for gaps in NOT_GOOD:
            with self.subTest(gaps=gaps):
                self.refused(NoRound, all_marks, gaps)
                self.refused(NoRound, how_many, gaps)
                self.refused(NoRound, order_for, gaps, "h" * len(gaps))

    def test_no_mark(self):
        wrong = ["", "h", "hh", "hhh", "hhhhh", "hvvx", "HHHV", "hhh ", "hho.", "oooo", " hhh", "hhh\n", "hvh", "h h h h",
                 "hhhvhhhv", "....", "hhho", "\nhhv"]
        for row in wrong:
            with self.subTest(row=row):
                self.refused(NoMark, order_for, [1, 2, 3, 2], row)
        self.refused(NoMark, order_for, [1, 1], "")
        self.refused(NoMark, order_for, [1, 1], "hvo")
        self.refused(NoMark, order_for, [1] * 8, "hhhhhvv")
        self.refused(NoMark, order_for, [1] * 8, "h" * 4000)

    def test_no_round_comes_first(self):
        self.refused(NoRound, order_for, [1, 2], "x")
        self.refused(NoRound, order_for, [], "")
        self.refused(NoRound, order_for, [], "x")
        self.refused(NoRound, order_for, [1, 1, 1], "oo")


class Point2(unittest.TestCase):
    def test_what_is_handed_in_stays_and_what_is_told_is_the_askers_own(self):
        gaps = [1, 1, 2, 2]
        told = all_marks(gaps)
        order = order_for(gaps, told[0])
        self.assertIs(type(told), list)
        self.assertIs(type(order), list)
        kept = list(told)
        kept_order = list(order)
        told.clear()
        order.append(9)
        self.assertEqual(all_marks(gaps), kept)
        self.assertEqual(order_for(gaps, kept[0]), kept_order)
        self.assertEqual(how_many(gaps), len(kept))
        self.assertEqual(gaps, [1, 1, 2, 2])
        two = order_for([1, 1], "vv")
        two.append(5)
        self.assertEqual(order_for([1, 1], "vv"), [0, 1])
        self.assertIs(type(how_many(gaps)), int)


if __name__ == "__main__":
    unittest.main()
