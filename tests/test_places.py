"""Points 5 to 8, with 2 and 3: places, what stands beside and round them, and mirrors."""

import unittest

from creasecourt import places

# The sixteen places of a block as point 5 tells them, row by row: corner, edges by
# their lines (Level, Upright, Falling, Rising), quarter, and a dot for nothing.
BLOCK = ["C.L.", ".FQR", "UQCQ", ".RQF"]
LINES = {"L": "level", "U": "upright", "F": "falling", "R": "rising"}

# Where blocks begin: at 0, below 0, with sixty figures, and beyond them.
BLOCK_STARTS = [
    (0, 0), (4, 8), (-4, -4), (-8, 12), (12, -400),
    (10 ** 60 - 4, 10 ** 60 - 4), (-10 ** 60 + 4, 10 ** 60 - 8), (4, -10 ** 60 + 4),
    (4 * 10 ** 80, -4 * 10 ** 90),
]


def places_with_signs():
    for across, down in BLOCK_STARTS:
        for y, row in enumerate(BLOCK):
            for x, sign in enumerate(row):
                yield (across + x, down + y), sign


def all_of(signs):
    return [place for place, sign in places_with_signs() if sign in signs]


def near(place, reach):
    x, y = place
    return [(x + i, y + j) for i in range(-reach, reach + 1) for j in range(-reach, reach + 1)]


class Point5(unittest.TestCase):
    def test_each_place_of_a_block(self):
        for place, sign in places_with_signs():
            with self.subTest(place=place):
                self.assertIs(places.is_corner(place), sign == "C")
                self.assertIs(places.is_edge(place), sign in LINES)
                self.assertIs(places.is_quarter(place), sign == "Q")

    def test_lines_of_edges(self):
        for place, sign in places_with_signs():
            if sign in LINES:
                with self.subTest(place=place):
                    self.assertEqual(places.line_of(place), LINES[sign])

    def test_some_by_hand(self):
        self.assertEqual(places.line_of((2, 0)), "level")
        self.assertEqual(places.line_of((-2, -4)), "level")
        self.assertEqual(places.line_of((0, 2)), "upright")
        self.assertEqual(places.line_of((-4, -2)), "upright")
        self.assertEqual(places.line_of((1, 1)), "falling")
        self.assertEqual(places.line_of((-1, 3)), "falling")
        self.assertEqual(places.line_of((3, 1)), "rising")
        self.assertEqual(places.line_of((-1, 1)), "rising")
        self.assertIs(places.is_corner((-2, 2)), True)
        self.assertIs(places.is_corner((-2, 4)), False)
        self.assertIs(places.is_quarter((-2, -1)), True)
        self.assertIs(places.is_quarter((0, -1)), False)


def ends_by_hand(x, y, sign):
    return {
        "L": [(x - 2, y), (x + 2, y)],
        "U": [(x, y - 2), (x, y + 2)],
        "F": [(x - 1, y - 1), (x + 1, y + 1)],
        "R": [(x - 1, y + 1), (x + 1, y - 1)],
    }[sign]


def sides_by_hand(x, y, sign):
    if sign == "L":
        return [(x, y - 1), (x, y + 1)]
    if sign == "U":
        return [(x - 1, y), (x + 1, y)]
    across = [n for n in (x - 1, x + 1) if n % 4 == 2]
    down = [n for n in (y - 1, y + 1) if n % 4 == 2]
    return sorted([(across[0], y), (x, down[0])])


class Point6(unittest.TestCase):
    def test_ends_and_sides_of_each_edge(self):
        for (x, y), sign in places_with_signs():
            if sign in LINES:
                with self.subTest(edge=(x, y)):
                    self.assertEqual(places.ends_of((x, y)), ends_by_hand(x, y, sign))
                    self.assertEqual(places.sides_of((x, y)), sides_by_hand(x, y, sign))

    def test_ends_are_corners_and_sides_are_quarters(self):
        for edge in all_of(LINES):
            with self.subTest(edge=edge):
                self.assertTrue(all(places.is_corner(end) for end in places.ends_of(edge)))
                self.assertTrue(all(places.is_quarter(side) for side in places.sides_of(edge)))

    def test_edges_of_a_quarter_are_those_beside_which_it_lies(self):
        for quarter in all_of("Q"):
            with self.subTest(quarter=quarter):
                edges = [
                    place for place in near(quarter, 3)
                    if places.is_edge(place) and quarter in places.sides_of(place)
                ]
                self.assertEqual(len(edges), 3)
                self.assertEqual(places.edges_of(quarter), sorted(edges))

    def test_corners_of_a_quarter_are_the_ends_of_its_edges(self):
        for quarter in all_of("Q"):
            with self.subTest(quarter=quarter):
                ends = {end for edge in places.edges_of(quarter) for end in places.ends_of(edge)}
                self.assertEqual(len(ends), 3)
                self.assertEqual(places.corners_of(quarter), sorted(ends))

    def test_the_four_quarters_of_a_square_by_hand(self):
        self.assertEqual(places.edges_of((2, 1)), [(1, 1), (2, 0), (3, 1)])
        self.assertEqual(places.corners_of((2, 1)), [(0, 0), (2, 2), (4, 0)])
        self.assertEqual(places.edges_of((1, 2)), [(0, 2), (1, 1), (1, 3)])
        self.assertEqual(places.corners_of((1, 2)), [(0, 0), (0, 4), (2, 2)])
        self.assertEqual(places.edges_of((2, 3)), [(1, 3), (2, 4), (3, 3)])
        self.assertEqual(places.corners_of((2, 3)), [(0, 4), (2, 2), (4, 4)])
        self.assertEqual(places.edges_of((3, 2)), [(3, 1), (3, 3), (4, 2)])
        self.assertEqual(places.corners_of((3, 2)), [(2, 2), (4, 0), (4, 4)])
        self.assertEqual(places.edges_of((-2, -1)), [(-3, -1), (-2, 0), (-1, -1)])
        self.assertEqual(places.corners_of((-2, -1)), [(-4, 0), (-2, -2), (0, 0)])

    def test_sides_of_falling_and_rising_edges_by_hand(self):
        self.assertEqual(places.sides_of((1, 1)), [(1, 2), (2, 1)])
        self.assertEqual(places.sides_of((3, 3)), [(2, 3), (3, 2)])
        self.assertEqual(places.sides_of((3, 1)), [(2, 1), (3, 2)])
        self.assertEqual(places.sides_of((1, 3)), [(1, 2), (2, 3)])
        self.assertEqual(places.sides_of((-1, -1)), [(-2, -1), (-1, -2)])


EIGHT = [(2, 0), (1, 1), (0, 2), (-1, 1), (-2, 0), (-1, -1), (0, -2), (1, -1)]
FOUR = [(1, 1), (-1, 1), (-1, -1), (1, -1)]


class Point7(unittest.TestCase):
    def test_edges_round_each_corner(self):
        for x, y in all_of("C"):
            with self.subTest(corner=(x, y)):
                farther = EIGHT if x % 4 == 0 else FOUR
                self.assertEqual(places.edges_round((x, y)), [(x + i, y + j) for i, j in farther])

    def test_edges_round_a_corner_are_those_that_end_there(self):
        for corner in all_of("C"):
            with self.subTest(corner=corner):
                ending = [
                    place for place in near(corner, 3)
                    if places.is_edge(place) and corner in places.ends_of(place)
                ]
                self.assertEqual(sorted(places.edges_round(corner)), sorted(ending))

    def test_quarter_k_lies_beside_the_edges_k_and_k_and_one(self):
        for corner in all_of("C"):
            with self.subTest(corner=corner):
                edges = places.edges_round(corner)
                quarters = places.quarters_round(corner)
                self.assertEqual(len(quarters), len(edges))
                for k, quarter in enumerate(quarters):
                    shared = set(places.sides_of(edges[k]))
                    shared &= set(places.sides_of(edges[(k + 1) % len(edges)]))
                    self.assertEqual(shared, {quarter})

    def test_both_sorts_by_hand(self):
        self.assertEqual(
            places.quarters_round((0, 0)),
            [(2, 1), (1, 2), (-1, 2), (-2, 1), (-2, -1), (-1, -2), (1, -2), (2, -1)],
        )
        self.assertEqual(places.quarters_round((2, 2)), [(2, 3), (1, 2), (2, 1), (3, 2)])
        self.assertEqual(places.edges_round((-2, -2)), [(-1, -1), (-3, -1), (-3, -3), (-1, -3)])


def number_by_hand(place, sign):
    x, y = place
    return {"L": y, "U": x, "F": x - y, "R": x + y}[sign]


def mirrored_by_hand(place, sign, n):
    x, y = place
    return {
        "L": (x, 2 * n - y),
        "U": (2 * n - x, y),
        "F": (y + n, x - n),
        "R": (n - y, n - x),
    }[sign]


class Point8(unittest.TestCase):
    def places_by_edges(self):
        far = [(0, 0), (-7, 5), (10 ** 60 - 1, -10 ** 60 + 1), (-10 ** 60 + 3, -10 ** 60 + 2)]
        for edge, sign in places_with_signs():
            if sign in LINES:
                for place in near(edge, 2) + far:
                    yield place, edge, sign

    def test_hands(self):
        for place, edge, sign in self.places_by_edges():
            with self.subTest(place=place, edge=edge):
                ahead = number_by_hand(place, sign) - number_by_hand(edge, sign)
                hand = places.hand_of(place, edge)
                self.assertEqual(hand, 1 if ahead > 0 else -1 if ahead < 0 else 0)
                self.assertIs(type(hand), int)

    def test_mirrored(self):
        for place, edge, sign in self.places_by_edges():
            with self.subTest(place=place, edge=edge):
                expected = mirrored_by_hand(place, sign, number_by_hand(edge, sign))
                self.assertEqual(places.mirrored(place, edge), expected)

    def test_mirrors_go_back_change_hands_and_keep_sorts(self):
        for place, edge, sign in self.places_by_edges():
            with self.subTest(place=place, edge=edge):
                image = places.mirrored(place, edge)
                self.assertEqual(places.mirrored(image, edge), place)
                self.assertEqual(places.hand_of(image, edge), -places.hand_of(place, edge))
                self.assertEqual(image == place, places.hand_of(place, edge) == 0)
                self.assertIs(places.is_corner(image), places.is_corner(place))
                self.assertIs(places.is_edge(image), places.is_edge(place))
                self.assertIs(places.is_quarter(image), places.is_quarter(place))

    def test_sides_go_to_one_another_and_ends_stay(self):
        for edge in all_of(LINES):
            with self.subTest(edge=edge):
                one, other = places.sides_of(edge)
                self.assertEqual(places.mirrored(one, edge), other)
                self.assertEqual(places.mirrored(other, edge), one)
                for end in places.ends_of(edge):
                    self.assertEqual(places.hand_of(end, edge), 0)
                    self.assertEqual(places.mirrored(end, edge), end)

    def test_by_hand(self):
        self.assertEqual(places.hand_of((2, 5), (2, 4)), 1)
        self.assertEqual(places.hand_of((2, 3), (2, 4)), -1)
        self.assertEqual(places.hand_of((90, 4), (2, 4)), 0)
        self.assertEqual(places.hand_of((5, 2), (4, 2)), 1)
        self.assertEqual(places.hand_of((2, 1), (1, 1)), 1)
        self.assertEqual(places.hand_of((1, 2), (1, 1)), -1)
        self.assertEqual(places.hand_of((3, 2), (3, 1)), 1)
        self.assertEqual(places.hand_of((2, 1), (3, 1)), -1)
        self.assertEqual(places.mirrored((2, 3), (2, 4)), (2, 5))
        self.assertEqual(places.mirrored((3, 2), (4, 6)), (5, 2))
        self.assertEqual(places.mirrored((2, 1), (5, 1)), (5, -2))
        self.assertEqual(places.mirrored((2, 1), (3, 1)), (3, 2))


class Points2And3(unittest.TestCase):
    def test_told_lists_are_the_askers_own(self):
        asked = [
            (places.ends_of, LINES), (places.sides_of, LINES),
            (places.edges_of, "Q"), (places.corners_of, "Q"),
            (places.edges_round, "C"), (places.quarters_round, "C"),
        ]
        for ask, signs in asked:
            for place in all_of(signs):
                with self.subTest(ask=ask.__name__, place=place):
                    told = ask(place)
                    self.assertIs(type(told), list)
                    kept = list(told)
                    told[0] = "changed"
                    told.append("more")
                    again = ask(place)
                    self.assertEqual(again, kept)
                    again.clear()
                    self.assertEqual(ask(place), kept)
                    self.assertEqual(told, ["changed"] + kept[1:] + ["more"])

    def test_places_told_are_tuples_of_whole_numbers(self):
        told = [places.mirrored((2, 1), edge) for edge in all_of(LINES)]
        for edge in all_of(LINES):
            told += places.ends_of(edge) + places.sides_of(edge)
        for quarter in all_of("Q"):
            told += places.edges_of(quarter) + places.corners_of(quarter)
        for corner in all_of("C"):
            told += places.edges_round(corner) + places.quarters_round(corner)
        for place in told:
            self.assertIs(type(place), tuple)
            self.assertEqual([type(number) for number in place], [int, int])


if __name__ == "__main__":
    unittest.main()
