"""The refusals: their names, what they stand under, what they are made of."""

import unittest

from matefloors import errors

NAMES = ["NoRoot", "NoNumber", "NoLaying", "NoTile", "NoFit", "NoKinds", "NoPlan", "NoSpot", "NoNet", "NoText",
         "NoSaying", "NoName", "TooMany"]


class ErrorsTest(unittest.TestCase):
    def test_floor_error_stands_straight_under_value_error(self):
        self.assertEqual(errors.FloorError.__bases__, (ValueError,))

    def test_each_stands_straight_under_floor_error_and_none_under_another_one(self):
        for name in NAMES:
            with self.subTest(name):
                self.assertEqual(getattr(errors, name).__bases__, (errors.FloorError,))

    def test_no_two_are_one_class(self):
        self.assertEqual(len({getattr(errors, name) for name in NAMES}), 13)
        for name in NAMES:
            self.assertEqual(getattr(errors, name).__name__, name)

    def test_each_is_made_of_a_text(self):
        for name in NAMES + ["FloorError"]:
            with self.subTest(name):
                self.assertEqual(str(getattr(errors, name)("some words")), "some words")

    def test_each_is_taken_as_a_refusal_and_not_as_another_one(self):
        for name in NAMES:
            with self.subTest(name):
                with self.assertRaises(errors.FloorError):
                    raise getattr(errors, name)("why")
                for other in NAMES:
                    if other != name:
                        self.assertFalse(issubclass(getattr(errors, name), getattr(errors, other)))


if __name__ == "__main__":
    unittest.main()
