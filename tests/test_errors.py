"""Point 21: the refusals and how they stand under one another."""

import unittest

from overhaul import errors

REFUSALS = (
    "BadName", "Taken", "Full", "NoCraft", "TooFar", "BadMoment",
    "Past", "NotThere", "NoWatch", "NoTale",
)


class Refusals(unittest.TestCase):
    def test_water_error_stands_right_under_value_error(self):
        self.assertEqual(errors.WaterError.__bases__, (ValueError,))

    def test_each_refusal_stands_right_under_water_error(self):
        for name in REFUSALS:
            with self.subTest(name):
                self.assertEqual(getattr(errors, name).__bases__, (errors.WaterError,))

    def test_the_refusals_are_unlike_classes_under_their_own_names(self):
        kinds = [getattr(errors, name) for name in REFUSALS]
        self.assertEqual(len(set(kinds)), len(REFUSALS))
        self.assertEqual([kind.__name__ for kind in kinds], list(REFUSALS))

    def test_no_refusal_stands_under_another(self):
        for one in REFUSALS:
            for two in REFUSALS:
                with self.subTest(one=one, two=two):
                    below = issubclass(getattr(errors, one), getattr(errors, two))
                    self.assertEqual(below, one == two)

    def test_each_can_be_raised_and_caught_as_water_error_and_value_error(self):
        for name in REFUSALS + ("WaterError",):
            for caught in (errors.WaterError, ValueError):
                with self.subTest(name=name, caught=caught), self.assertRaises(caught):
                    raise getattr(errors, name)("why")


if __name__ == "__main__":
    unittest.main()
