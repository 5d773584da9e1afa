"""Points 10 and 11, with 2 and 3: what a sheet is, and how it is made."""

import unittest

import samples
from creasecourt.errors import CreaseError, NoEdge, NoMark, NoSize, Twice
from creasecourt.sheets import corners_in, edges_in, mark_at, quarters_in, sheet_of

SIZES = [(wide, high) for wide in range(1, 7) for high in range(1, 7)]


class Unlike:
    """Says that it is equal to all; it is still no number, no mark, no edge."""

    __hash__ = None

    def __eq__(self, other):
        return True


class Point10(unittest.TestCase):
    def test_quarters_edges_and_corners_of_each_size(self):
        for wide, high in SIZES:
            with self.subTest(wide=wide, high=high):
                self.assertEqual(quarters_in(wide, high), samples.quarters_by_hand(wide, high))
                self.assertEqual(edges_in(wide, high), samples.edges_by_hand(wide, high))
                self.assertEqual(corners_in(wide, high), samples.corners_by_hand(wide, high))

    def test_how_many_there_are(self):
        for wide, high in SIZES:
            with self.subTest(wide=wide, high=high):
                self.assertEqual(len(quarters_in(wide, high)), 4 * wide * high)
                straight = wide * (high - 1) + high * (wide - 1)
                self.assertEqual(len(edges_in(wide, high)), 4 * wide * high + straight)
                inner = wide * high + (wide - 1) * (high - 1)
                self.assertEqual(len(corners_in(wide, high)), inner)

    def test_one_square_by_hand(self):
        self.assertEqual(quarters_in(1, 1), [(1, 2), (2, 1), (2, 3), (3, 2)])
        self.assertEqual(edges_in(1, 1), [(1, 1), (1, 3), (3, 1), (3, 3)])
        self.assertEqual(corners_in(1, 1), [(2, 2)])

    def test_wide_and_high_are_not_exchanged(self):
        self.assertEqual(
            edges_in(2, 1),
            [(1, 1), (1, 3), (3, 1), (3, 3), (4, 2), (5, 1), (5, 3), (7, 1), (7, 3)],
        )
        self.assertEqual(
            edges_in(1, 2),
            [(1, 1), (1, 3), (1, 5), (1, 7), (2, 4), (3, 1), (3, 3), (3, 5), (3, 7)],
        )
        self.assertEqual(corners_in(2, 1), [(2, 2), (6, 2)])
        self.assertEqual(corners_in(1, 2), [(2, 2), (2, 6)])
        self.assertEqual(corners_in(2, 2), [(2, 2), (2, 6), (4, 4), (6, 2), (6, 6)])

    def test_mark_at(self):
        sheet = sheet_of(2, 2, [((2, 4), "h"), ((4, 2), "v"), ((1, 1), "o")])
        for edge in edges_in(2, 2):
            expected = {(2, 4): "h", (4, 2): "v", (1, 1): "o"}.get(edge)
            with self.subTest(edge=edge):
                self.assertEqual(mark_at(sheet, edge), expected)
        self.assertIsNone(mark_at(sheet_of(2, 2, []), (2, 4)))


class Point11(unittest.TestCase):
    def refused(self, kind, *handed_in):
        with self.assertRaises(CreaseError) as taken:
            sheet_of(*handed_in)
        self.assertIs(type(taken.exception), kind)
        return taken.exception

    def test_a_sheet_is_told_in_order(self):
        marks = [((5, 1), "v"), ((1, 3), "h"), ((4, 2), "o"), ((1, 1), "v")]
        ordered = (((1, 1), "v"), ((1, 3), "h"), ((4, 2), "o"), ((5, 1), "v"))
        chance = samples.Chance(1)
        for unused in range(20):
            self.assertEqual(sheet_of(2, 1, chance.shuffled(marks)), (2, 1, ordered))

    def test_each_size_without_creases_and_with_all(self):
        for wide, high in SIZES:
            self.assertEqual(sheet_of(wide, high, []), (wide, high, ()))
            edges = samples.edges_by_hand(wide, high)
            for mark in "hvo":
                expected = (wide, high, tuple((edge, mark) for edge in edges))
                self.assertEqual(sheet_of(wide, high, [(edge, mark) for edge in edges[::-1]]), expected)

    def test_kinds_of_what_is_told(self):
        sheet = sheet_of(2, 1, [((4, 2), "h")])
        self.assertIs(type(sheet), tuple)
        self.assertIs(type(sheet[2]), tuple)
        self.assertIs(type(sheet[2][0]), tuple)
        hash(sheet)

    def test_no_size_of_anything(self):
        wrong = [0, 7, -1, -6, 8, samples.SIXTY, -samples.SIXTY, samples.BEYOND, Unlike()]
        for thing in wrong + samples.STRANGE:
            with self.subTest(thing=repr(thing)):
                self.refused(NoSize, thing, 1, [])
                self.refused(NoSize, 1, thing, [])
                self.refused(NoSize, thing, thing, [])
                self.refused(NoSize, 6, thing, [])

    def test_no_size_comes_ahead_of_all(self):
        self.refused(NoSize, 7, 1, [(None, None)])
        self.refused(NoSize, 1, 0, [((1, 1), "x")])
        self.refused(NoSize, True, 2, [((1, 1), "h"), ((1, 1), "h")])

    def test_no_edge_at_each_place_that_is_no_inner_edge(self):
        for wide, high in [(1, 1), (2, 1), (1, 2), (3, 2), (6, 6)]:
            inner = set(samples.edges_by_hand(wide, high))
            for x in range(-4, 4 * wide + 5):
                for y in range(-4, 4 * high + 5):
                    if (x, y) in inner:
                        self.assertEqual(sheet_of(wide, high, [((x, y), "h")])[2], (((x, y), "h"),))
                    else:
                        with self.subTest(wide=wide, high=high, x=x, y=y):
                            self.assertEqual(self.refused(NoEdge, wide, high, [((x, y), "h")]).edge, (x, y))

    def test_no_edge_far_off(self):
        far = [(1 + 4 * 10 ** 59, 1), (1, 1 - 4 * 10 ** 59), (-3, 1), (1, -3), (samples.SIXTY, 1)]
        for edge in far:
            self.assertEqual(self.refused(NoEdge, 6, 6, [(edge, "h")]).edge, edge)

    def test_no_edge_of_anything(self):
        things = samples.STRANGE + [
            [1, 1], (1,), (1, 1, 1), (1.0, 1.0), (1, 1.0), ("1", "1"), (None, None), ([1], 1), ((1, 1),),
            "11", {1: 1}, 11, {"edge": (1, 1)}, Unlike(), (Unlike(), Unlike()), (1, None), ([], []), [[1, 1]],
        ]
        for thing in things:
            with self.subTest(thing=repr(thing)):
                self.assertIs(self.refused(NoEdge, 2, 2, [(thing, "h")]).edge, thing)
                self.assertIs(self.refused(NoEdge, 2, 2, [((1, 1), "h"), (thing, "h")]).edge, thing)

    def test_no_mark_of_anything(self):
        things = samples.STRANGE + [
            "H", "V", "O", "x", ".", " ", "hh", "hv", "h ", " h", "hvo", "h\n", ["h"], ("h",), {"h": 1}, 0, 1,
            Unlike(), b"h",
        ]
        for thing in things:
            with self.subTest(thing=repr(thing)):
                self.refused(NoMark, 2, 2, [((1, 1), thing)])
                self.refused(NoMark, 2, 2, [((3, 3), "v"), ((1, 1), thing), ((1, 3), "h")])

    def test_an_edge_twice(self):
        for one in "hvo":
            for other in "hvo":
                error = self.refused(Twice, 2, 2, [((1, 1), one), ((2, 4), "h"), ((1, 1), other)])
                self.assertEqual(error.edge, (1, 1))
        self.assertEqual(self.refused(Twice, 1, 1, [((3, 1), "h")] * 300).edge, (3, 1))

    def test_which_refusal_comes_first_in_one_tuple(self):
        self.assertEqual(self.refused(NoEdge, 1, 1, [((2, 2), "x")]).edge, (2, 2))
        self.refused(NoMark, 1, 1, [((1, 1), "h"), ((1, 1), "x")])

    def test_tuples_are_looked_at_one_by_one(self):
        self.refused(NoMark, 1, 1, [((1, 1), "x"), ((2, 2), "h")])
        self.assertEqual(self.refused(NoEdge, 1, 1, [((2, 2), "h"), ((1, 1), "x")]).edge, (2, 2))
        twice = [((1, 1), "h"), ((1, 1), "h")]
        self.assertEqual(self.refused(Twice, 1, 1, twice + [((2, 2), "h")]).edge, (1, 1))
        self.assertEqual(self.refused(Twice, 1, 1, twice + [((3, 3), "x")]).edge, (1, 1))
        self.assertEqual(self.refused(NoEdge, 1, 1, [((2, 2), "h")] + twice).edge, (2, 2))
        self.assertEqual(self.refused(NoEdge, 1, 1, [((0, 0), "h"), ((2, 2), "h")]).edge, (0, 0))


class Points2And3(unittest.TestCase):
    def test_what_is_handed_in_stays_and_is_not_kept(self):
        handed = [((5, 1), "v"), ((1, 1), "h")]
        before = list(handed)
        sheet = sheet_of(2, 1, handed)
        self.assertEqual(handed, before)
        handed.append(((1, 3), "o"))
        handed[0] = ((7, 1), "o")
        self.assertEqual(sheet, (2, 1, (((1, 1), "h"), ((5, 1), "v"))))
        self.assertEqual(sheet_of(2, 1, before), sheet)

    def test_a_refused_list_stays_as_it_was(self):
        handed = [((5, 1), "v"), ((1, 1), "h"), ((5, 1), "v")]
        before = list(handed)
        with self.assertRaises(Twice):
            sheet_of(2, 1, handed)
        self.assertEqual(handed, before)

    def test_told_lists_are_the_askers_own(self):
        for ask in (quarters_in, edges_in, corners_in):
            told = ask(2, 3)
            self.assertIs(type(told), list)
            kept = list(told)
            told.append("more")
            told[0] = "changed"
            self.assertEqual(ask(2, 3), kept)
            ask(2, 3).clear()
            self.assertEqual(ask(2, 3), kept)
            self.assertEqual(told, ["changed"] + kept[1:] + ["more"])


if __name__ == "__main__":
    unittest.main()
