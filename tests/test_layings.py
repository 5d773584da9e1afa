"""Point 9, with 2 and 3: layings."""

import unittest

from creasecourt import layings, places

BIG = 10 ** 60
EDGES = [
    (2, 0), (-2, -4), (6, BIG - 4),
    (0, 2), (-4, -2), (-BIG + 4, 2),
    (1, 1), (-1, 3), (-5, -9), (BIG - 3, -BIG + 1),
    (3, 1), (-3, 3), (1, -BIG + 3),
]
POINTS = [(0, 0), (1, 0), (0, 1), (3, -2), (-7, 5), (BIG - 1, -BIG + 1), (-BIG + 2, BIG - 5)]


def some_layings():
    made = [layings.STILL] + [layings.mirror_in(edge) for edge in EDGES]
    for one in EDGES:
        for other in EDGES:
            made.append(layings.then(layings.mirror_in(one), layings.mirror_in(other)))
    made.append(mirrors_one_behind_the_other(EDGES))
    made.append(mirrors_one_behind_the_other(EDGES[3:] + EDGES[:7]))
    return made


def mirrors_one_behind_the_other(edges):
    laying = layings.STILL
    for edge in edges:
        laying = layings.then(laying, layings.mirror_in(edge))
    return laying


class Point9(unittest.TestCase):
    def test_still_leaves_all(self):
        self.assertEqual(layings.STILL, (1, 0, 0, 1, 0, 0))
        for point in POINTS:
            self.assertEqual(layings.led(layings.STILL, point), point)

    def test_led_by_hand(self):
        self.assertEqual(layings.led((0, -1, 1, 0, 5, -3), (2, 7)), (-2, -1))
        self.assertEqual(layings.led((0, 1, 1, 0, 4, -4), (2, 1)), (5, -2))
        self.assertEqual(layings.led((-1, 0, 0, -1, BIG, -BIG), (1, 2)), (BIG - 1, -BIG - 2))

    def test_led_goes_by_all_six_numbers(self):
        self.assertEqual(layings.led((2, 3, 5, 7, 11, 13), (17, 19)), (34 + 57 + 11, 85 + 133 + 13))

    def test_mirror_in_by_hand(self):
        self.assertEqual(layings.mirror_in((2, 4)), (1, 0, 0, -1, 0, 8))
        self.assertEqual(layings.mirror_in((-4, 2)), (-1, 0, 0, 1, -8, 0))
        self.assertEqual(layings.mirror_in((5, 1)), (0, 1, 1, 0, 4, -4))
        self.assertEqual(layings.mirror_in((3, 1)), (0, -1, -1, 0, 4, 4))

    def test_mirror_in_leads_as_mirrored_tells(self):
        for edge in EDGES:
            for point in POINTS:
                with self.subTest(edge=edge, point=point):
                    told = layings.led(layings.mirror_in(edge), point)
                    self.assertEqual(told, places.mirrored(point, edge))

    def test_the_one_and_then_the_other(self):
        chosen = some_layings()[::7]
        for one in chosen:
            for other in chosen:
                both = layings.then(one, other)
                for point in POINTS:
                    with self.subTest(one=one, other=other, point=point):
                        expected = layings.led(other, layings.led(one, point))
                        self.assertEqual(layings.led(both, point), expected)

    def test_then_by_hand(self):
        level = layings.mirror_in((2, 4))
        falling = layings.mirror_in((1, 1))
        self.assertEqual(layings.then(level, falling), (0, -1, 1, 0, 8, 0))
        self.assertEqual(layings.then(falling, level), (0, 1, -1, 0, 0, 8))

    def test_a_mirror_twice_leaves_all(self):
        for edge in EDGES:
            mirror = layings.mirror_in(edge)
            self.assertEqual(layings.then(mirror, mirror), layings.STILL)
            self.assertEqual(layings.way_back(mirror), mirror)

    def test_way_back(self):
        for laying in some_layings():
            with self.subTest(laying=laying):
                back = layings.way_back(laying)
                self.assertEqual(layings.then(laying, back), layings.STILL)
                self.assertEqual(layings.then(back, laying), layings.STILL)
                self.assertEqual(layings.way_back(back), laying)

    def test_way_back_by_hand(self):
        self.assertEqual(layings.way_back((0, -1, 1, 0, 8, 0)), (0, 1, -1, 0, 0, 8))
        self.assertEqual(layings.way_back((1, 0, 0, 1, 8, -12)), (1, 0, 0, 1, -8, 12))
        self.assertEqual(layings.way_back(layings.STILL), layings.STILL)

    def test_turned_over_after_an_odd_number_of_mirrors(self):
        self.assertIs(layings.is_turned(layings.STILL), False)
        laying = layings.STILL
        for number, edge in enumerate(EDGES * 2, start=1):
            laying = layings.then(laying, layings.mirror_in(edge))
            with self.subTest(number=number):
                self.assertIs(layings.is_turned(laying), number % 2 == 1)
                self.assertIs(layings.is_turned(layings.way_back(laying)), number % 2 == 1)

    def test_layings_lead_corners_edges_and_quarters_to_such(self):
        block = [(x, y) for x in range(-4, 4) for y in range(-4, 4)]
        for laying in some_layings()[::5]:
            for place in block:
                with self.subTest(laying=laying, place=place):
                    image = layings.led(laying, place)
                    self.assertIs(places.is_corner(image), places.is_corner(place))
                    self.assertIs(places.is_edge(image), places.is_edge(place))
                    self.assertIs(places.is_quarter(image), places.is_quarter(place))


class Points2And3(unittest.TestCase):
    def test_layings_told_are_tuples_of_six_whole_numbers(self):
        for laying in some_layings():
            for told in (laying, layings.way_back(laying)):
                self.assertIs(type(told), tuple)
                self.assertEqual([type(number) for number in told], [int] * 6)
                self.assertEqual(sorted(abs(number) for number in told[:4]), [0, 0, 1, 1])

    def test_places_told_are_tuples_of_whole_numbers(self):
        for laying in some_layings():
            told = layings.led(laying, (3, -2))
            self.assertIs(type(told), tuple)
            self.assertEqual([type(number) for number in told], [int, int])

    def test_numbers_told_may_be_longer_than_those_handed_in(self):
        far = layings.mirror_in((2, 10 ** 60 - 4))
        self.assertEqual(far, (1, 0, 0, -1, 0, 2 * 10 ** 60 - 8))
        moved = layings.then(layings.mirror_in((2, -10 ** 60 + 4)), far)
        self.assertEqual(moved, (1, 0, 0, 1, 0, 4 * 10 ** 60 - 16))
        self.assertEqual(layings.led(moved, (5, 7)), (5, 4 * 10 ** 60 - 9))


if __name__ == "__main__":
    unittest.main()
