"""Point 3: good names."""

import string
import unittest

from overhaul.names import good_name

SMALL = "abcdefghijklmnopqrstuvwxyz"
FIGURES = "0123456789"


class GoodName(unittest.TestCase):
    def assert_good(self, text):
        self.assertIs(good_name(text), True, repr(text))

    def assert_bad(self, text):
        self.assertIs(good_name(text), False, repr(text[:20]))

    def test_ordinary(self):
        for text in ("pike", "carp2", "0", "7up", "a1b2c3d4"):
            self.assert_good(text)

    def test_lengths(self):
        self.assert_bad("")
        for many in range(1, 9):
            self.assert_good("a" * many)
            self.assert_good("9" * many)
        for many in (9, 10, 16, 1000, 10 ** 6):
            self.assert_bad("a" * many)
            self.assert_bad("9" * many)

    def test_each_small_letter_and_each_figure(self):
        for sign in SMALL + FIGURES:
            self.assert_good(sign)
            self.assert_good("abc" + sign + "xyz")

    def test_every_other_sign_at_each_place(self):
        # All signs that point 20 allows in texts.
        others = [sign for sign in string.printable if " " <= sign <= "~" or sign == "\n"]
        others = [sign for sign in others if sign not in SMALL + FIGURES]
        self.assertEqual(len(others), 96 - 36)
        for sign in others:
            for text in (sign, sign + "ab", "a" + sign + "b", "ab" + sign, "abcdefg" + sign):
                self.assert_bad(text)

    def test_named_edges(self):
        for text in ("Pike", "piKe", "pikE", " ", " pike", "pi ke", "pike ", "-1", "a-b", "ab-", "_", "a_b",
                     "\n", "\npike", "pi\nke", "pike\n", "abcdefg\n", "abcdefgh\n", "\nabcdefgh"):
            self.assert_bad(text)


if __name__ == "__main__":
    unittest.main()
