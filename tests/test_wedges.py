"""Points 14 to 17, as far as they lie with wedges, with 2 and 3."""

import itertools
import unittest

import samples
from creasecourt.errors import CreaseError, NoOrder, NoRound
from creasecourt.wedges import is_good, marks_of, shut_at, spots_of

BIG = samples.SIXTY

GOOD = [
    [1, 1], [7, 7], [BIG, BIG],
    [1, 1, 1, 1], [1, 2, 3, 2], [2, 1, 2, 3], [1, 1, 2, 2], [3, 1, 1, 3], [BIG, 1, 1, BIG], [5, 9, 8, 4],
    [1, 1, 1, 1, 1, 1], [1, 2, 3, 4, 5, 3], [2, 1, 1, 1, 1, 2], [BIG, BIG - 1, BIG - 2, BIG, 3, 2],
    [1, 1, 1, 1, 1, 1, 1, 1], [4, 1, 3, 2, 2, 5, 1, 2], [9, 1, 1, 9, 4, 4, 2, 2], [BIG] * 8,
]

NOT_GOOD = [
    [1], [8], [1, 2], [2, 1], [1, 1, 1], [1, 2, 1], [2, 4, 2], [1, 1, 1, 2], [1, 2, 1, 1], [1, 1, 2, 1, 1],
    [0, 0], [-1, -1], [1, 1, 0, 0], [0, 1, 1, 0], [1, 1, -1, -1], [2, 0, -2, 0], [1, 1, 1, 1, 1, 1, 0, 0],
    [BIG, BIG - 1], [BIG, BIG, BIG], [BIG, -BIG], [-BIG, -BIG],
    [1] * 7, [1] * 9, [1] * 10, [1] * 12, [1] * 100, [1, 1, 1, 1, 1, 1, 1, 2],
]


def spots_by_hand(gaps):
    return [sum(gap if j % 2 == 0 else -gap for j, gap in enumerate(gaps[:k])) for k in range(len(gaps))]


def shut_by_hand(gaps, order):
    n = len(gaps)
    spots = spots_by_hand(gaps)
    ends = spots + [0]
    for k in range(n):
        one, other = sorted([order.index((k - 1) % n), order.index(k)])
        between = order[one + 1:other]
        for j in range(n):
            low, high = sorted([ends[j], ends[j + 1]])
            if low < spots[k] < high and j in between:
                return ("wedge", k, j)
        for m in range(n):
            if m != k and (m - k) % 2 == 0 and spots[m] == spots[k]:
                if len({(m - 1) % n, m} & set(between)) == 1:
                    return ("crease", k, m)
    return None


def marks_by_hand(gaps, order):
    told = ""
    for k in range(len(gaps)):
        odd, even = sorted([(k - 1) % len(gaps), k], key=lambda wedge: wedge % 2 == 0)
        told += "v" if order.index(odd) > order.index(even) else "h"
    return told


def some_orders(count, chance):
    if count < 6:
        return [list(order) for order in itertools.permutations(range(count))]
    return [chance.shuffled(range(count)) for unused in range(150)]


class Point14(unittest.TestCase):
    def test_good_gaps(self):
        for gaps in GOOD + [[]]:
            with self.subTest(gaps=gaps):
                self.assertIs(is_good(gaps), True)

    def test_gaps_that_are_not_good(self):
        for gaps in NOT_GOOD:
            with self.subTest(gaps=gaps):
                self.assertIs(is_good(gaps), False)

    def test_all_short_lists_of_small_numbers(self):
        for count in range(6):
            for gaps in itertools.product(range(-1, 4), repeat=count):
                good = count % 2 == 0 and min(gaps, default=1) >= 1 and sum(gaps[::2]) == sum(gaps[1::2])
                self.assertIs(is_good(list(gaps)), good)

    def test_what_is_handed_in_stays(self):
        gaps = [1, 2, 3, 2]
        is_good(gaps)
        self.assertEqual(gaps, [1, 2, 3, 2])


class Point15(unittest.TestCase):
    def test_spots_by_hand(self):
        self.assertEqual(spots_of([3, 3]), [0, 3])
        self.assertEqual(spots_of([1, 2, 3, 2]), [0, 1, -1, 2])
        self.assertEqual(spots_of([1, 1, 1, 1]), [0, 1, 0, 1])
        self.assertEqual(spots_of([2, 5, 4, 1, 3, 3]), [0, 2, -3, 1, 0, 3])
        self.assertEqual(spots_of([BIG] * 8), [0, BIG] * 4)

    def test_spots_of_all_good_lists(self):
        for gaps in GOOD:
            told = spots_of(gaps)
            self.assertEqual(told, spots_by_hand(gaps))
            self.assertEqual(told[-1], gaps[-1])

    def test_other_lists_are_refused(self):
        for gaps in NOT_GOOD + [[]]:
            with self.subTest(gaps=gaps):
                with self.assertRaises(CreaseError) as taken:
                    spots_of(gaps)
                self.assertIs(type(taken.exception), NoRound)


class Point16(unittest.TestCase):
    def test_two_wedges_are_never_shut(self):
        self.assertIsNone(shut_at([1, 1], [0, 1]))
        self.assertIsNone(shut_at([BIG, BIG], [1, 0]))

    def test_by_hand(self):
        # Crease 1 at the spot 1 has the wedges 0 and 1; wedge 3 leads from 2 to 0 over it.
        self.assertEqual(shut_at([1, 2, 3, 2], [0, 3, 1, 2]), ("wedge", 1, 3))
        self.assertEqual(shut_at([1, 2, 3, 2], [0, 1, 2, 3]), ("wedge", 0, 1))
        self.assertIsNone(shut_at([1, 2, 3, 2], [3, 0, 1, 2]))
        self.assertEqual(shut_at([1, 1, 1, 1], [0, 1, 3, 2]), ("crease", 0, 2))
        self.assertEqual(shut_at([1, 1, 1, 1], [0, 2, 1, 3]), ("crease", 1, 3))
        self.assertIsNone(shut_at([1, 1, 1, 1], [0, 1, 2, 3]))

    def test_creases_at_one_spot_that_are_even_and_odd_do_not_shut(self):
        gaps = [2, 5, 4, 1, 3, 3]
        self.assertEqual(spots_of(gaps)[0], spots_of(gaps)[4])
        gaps = [1, 1, 2, 1, 1, 2]
        self.assertEqual(spots_of(gaps), [0, 1, 0, 2, 1, 2])
        for order in itertools.permutations(range(6)):
            told = shut_at(gaps, list(order))
            if told is not None and told[0] == "crease":
                self.assertEqual((told[1] - told[2]) % 2, 0)

    def test_orders_one_by_one(self):
        chance = samples.Chance(16)
        for gaps in GOOD:
            for order in some_orders(len(gaps), chance):
                self.assertEqual(shut_at(gaps, order), shut_by_hand(gaps, order), (gaps, order))

    def test_both_kinds_are_told_and_the_wedge_first(self):
        kinds = {}
        for gaps in GOOD:
            if len(gaps) in (4, 6):
                for order in itertools.permutations(range(len(gaps))):
                    expected = shut_by_hand(gaps, list(order))
                    self.assertEqual(shut_at(gaps, list(order)), expected)
                    kinds[expected and expected[0]] = True
        self.assertEqual(set(kinds), {None, "wedge", "crease"})


class Point17(unittest.TestCase):
    def test_marks_by_hand(self):
        self.assertEqual(marks_of([1, 1], [0, 1]), "vv")
        self.assertEqual(marks_of([1, 1], [1, 0]), "hh")
        self.assertEqual(marks_of([1, 2, 3, 2], [3, 0, 1, 2]), "hvhh")
        self.assertEqual(marks_of([1, 1, 1, 1], [0, 2, 1, 3]), "vvvv")

    def test_marks_of_orders_one_by_one(self):
        chance = samples.Chance(17)
        for gaps in GOOD:
            for order in some_orders(len(gaps), chance):
                self.assertEqual(marks_of(gaps, order), marks_by_hand(gaps, order))

    def test_marks_are_told_of_shut_orders_too(self):
        self.assertIsNotNone(shut_at([1, 2, 3, 2], [0, 3, 1, 2]))
        self.assertEqual(marks_of([1, 2, 3, 2], [0, 3, 1, 2]), "vvhh")


NO_ORDERS = [
    [], [0], [0, 1, 2], [0, 1, 2, 3, 4], [0, 1, 2, 2], [0, 0, 0, 0], [1, 2, 3, 4], [0, 1, 2, 4], [-1, 0, 1, 2],
    [0, 1, 2, -1], [3, 2, 1], [0, 1, 2, 3, 3], [0, 1, 2, 3, 0, 1, 2, 3], [0, 1, 2, BIG], [BIG] * 4, [-BIG, 1, 2, 3],
]


class Refusals(unittest.TestCase):
    def refused(self, kind, ask, gaps, order):
        with self.assertRaises(CreaseError) as taken:
            ask(gaps, order)
        self.assertIs(type(taken.exception), kind)

    def test_lists_that_are_no_orders(self):
        for ask in (shut_at, marks_of):
            for order in NO_ORDERS:
                with self.subTest(ask=ask.__name__, order=order):
                    self.refused(NoOrder, ask, [1, 2, 3, 2], order)
            self.refused(NoOrder, ask, [1, 1], [])
            self.refused(NoOrder, ask, [1, 1], [0, 1, 2, 3])
            self.refused(NoOrder, ask, [1] * 8, list(range(1, 9)))

    def test_lists_that_are_no_good_gaps(self):
        for ask in (shut_at, marks_of):
            for gaps in NOT_GOOD + [[]]:
                with self.subTest(ask=ask.__name__, gaps=gaps):
                    self.refused(NoRound, ask, gaps, list(range(len(gaps))))

    def test_no_round_comes_first(self):
        for ask in (shut_at, marks_of):
            self.refused(NoRound, ask, [1, 2], [5, 5])
            self.refused(NoRound, ask, [], [0])
            self.refused(NoRound, ask, [1] * 10, [])


class Points2And3(unittest.TestCase):
    def test_what_is_handed_in_stays(self):
        gaps = [1, 2, 3, 2]
        order = [3, 0, 1, 2]
        spots_of(gaps)
        shut_at(gaps, order)
        marks_of(gaps, order)
        self.assertEqual((gaps, order), ([1, 2, 3, 2], [3, 0, 1, 2]))

    def test_told_lists_are_the_askers_own(self):
        gaps = [1, 2, 3, 2]
        told = spots_of(gaps)
        self.assertIs(type(told), list)
        told.append(5)
        told[0] = 9
        self.assertEqual(spots_of(gaps), [0, 1, -1, 2])
        gaps[0] = 3
        gaps[1] = 4
        self.assertEqual(told, [9, 1, -1, 2, 5])

    def test_sixty_figures_and_beyond(self):
        self.assertEqual(spots_of([BIG, 1, 1, BIG]), [0, BIG, BIG - 1, BIG])
        self.assertIsNone(shut_at([BIG, 1, 1, BIG], [0, 1, 2, 3]))
        self.assertEqual(shut_at([BIG, 1, 1, BIG], [0, 3, 1, 2]), ("crease", 1, 3))
        self.assertEqual(shut_at([BIG, 1, 1, BIG], [1, 0, 2, 3]), ("wedge", 2, 0))
        far = [samples.BEYOND, samples.BEYOND]
        self.assertEqual(spots_of(far), [0, samples.BEYOND])

    def test_true_and_false_are_no_whole_numbers(self):
        self.assertIs(is_good([True, True]), False)
        for ask in (shut_at, marks_of):
            with self.assertRaises(NoOrder):
                ask([1, 1], [False, True])


if __name__ == "__main__":
    unittest.main()
