"""The interface of creasecourt/errors.py: each class, what it stands under, and its value."""

import unittest

from creasecourt import errors

PLAIN = [
    "NoSize", "NoMark", "NoText", "NoRound", "NoOrder",
    "TooMany", "NoFold", "NoRow", "NoName", "Taken",
]
VALUED = {"NoEdge": "edge", "Twice": "edge", "Barred": "corner"}
ALL = PLAIN + list(VALUED)


def made(name):
    kind = getattr(errors, name)
    return kind((2, 4)) if name in VALUED else kind()


class Classes(unittest.TestCase):
    def test_crease_error_stands_straight_under_value_error(self):
        self.assertEqual(errors.CreaseError.__bases__, (ValueError,))

    def test_each_class_stands_straight_under_crease_error(self):
        for name in ALL:
            with self.subTest(name=name):
                self.assertEqual(getattr(errors, name).__bases__, (errors.CreaseError,))

    def test_no_class_stands_under_another_one(self):
        for name in ALL:
            for other in ALL:
                if name != other:
                    with self.subTest(name=name, other=other):
                        self.assertFalse(issubclass(getattr(errors, name), getattr(errors, other)))

    def test_each_class_bears_its_name_and_its_module(self):
        for name in ALL + ["CreaseError"]:
            with self.subTest(name=name):
                self.assertEqual(getattr(errors, name).__name__, name)
                self.assertEqual(getattr(errors, name).__module__, "creasecourt.errors")

    def test_each_class_is_raised_and_taken_as_any_refusal(self):
        for name in ALL:
            with self.subTest(name=name):
                with self.assertRaises(errors.CreaseError) as taken:
                    raise made(name)
                self.assertIs(type(taken.exception), getattr(errors, name))
                with self.assertRaises(ValueError):
                    raise made(name)

    def test_plain_classes_are_made_of_nothing_or_of_words(self):
        for name in PLAIN + ["CreaseError"]:
            with self.subTest(name=name):
                kind = getattr(errors, name)
                self.assertIsInstance(str(kind()), str)
                self.assertEqual(str(kind("free words")), "free words")


class Values(unittest.TestCase):
    def test_each_value_is_what_was_handed_in(self):
        things = [(2, 4), (-2, -4), (10 ** 60, -10 ** 60), None, [2, 4], "edge", 7, {}, 10 ** 5000]
        for name, value in VALUED.items():
            for number, thing in enumerate(things):
                with self.subTest(name=name, number=number):
                    error = getattr(errors, name)(thing)
                    self.assertIs(getattr(error, value), thing)
                    self.assertIsInstance(str(error), str)
                    self.assertIsInstance(repr(error), str)

    def test_values_may_be_handed_in_by_name(self):
        self.assertEqual(errors.NoEdge(edge=(2, 4)).edge, (2, 4))
        self.assertEqual(errors.Twice(edge=(2, 4)).edge, (2, 4))
        self.assertEqual(errors.Barred(corner=(4, 4)).corner, (4, 4))

    def test_each_object_has_its_own_value(self):
        for name, value in VALUED.items():
            with self.subTest(name=name):
                one = getattr(errors, name)((2, 4))
                other = getattr(errors, name)((6, 4))
                self.assertEqual(getattr(one, value), (2, 4))
                self.assertEqual(getattr(other, value), (6, 4))

    def test_a_valued_error_needs_its_value(self):
        for name in VALUED:
            with self.subTest(name=name):
                with self.assertRaises(TypeError):
                    getattr(errors, name)()


if __name__ == "__main__":
    unittest.main()
