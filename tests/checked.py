"""What several tests share: fractions as the document tells them."""

import unittest


def told(exact):
    """The tuple that stands for one of Python's own fractions."""
    return (exact.numerator, exact.denominator)


class Checked(unittest.TestCase):
    def assert_told(self, got, wanted):
        """Equal, and a tuple of two plain integers (no bools, no list)."""
        self.assertEqual(got, wanted)
        self.assertIs(type(got), tuple)
        self.assertEqual([type(part) for part in got], [int, int])
