"""Points 1 and 2: exact fractions in lowest terms."""

import math
import unittest
from fractions import Fraction

from checked import Checked, told
from overhaul.errors import BadMoment
from overhaul.moments import (
    floor_of, fraction, half_way, in_lowest_terms, last_by, less, minus, plus, shared, times,
)

GREAT = 10 ** 40 + 7
GREATER = 3 ** 101
WHOLE = (0, 1, -1, 2, -2, 3, 6, -6, 7, 12, -12, 60, 1000, -1001, GREAT, -GREAT, GREATER, GREAT * 6, -GREATER * 35)

FRACTIONS = sorted({
    told(Fraction(top, bottom)) for top in WHOLE for bottom in (1, 2, 3, 7, 60, GREAT, GREATER * 2)
})


class Shared(unittest.TestCase):
    def test_ordinary(self):
        self.assertEqual(shared(12, 18), 6)
        self.assertEqual(shared(18, 12), 6)
        self.assertEqual(shared(7, 60), 1)

    def test_either_sign_is_never_below_nought(self):
        for one, two in ((12, 18), (-12, 18), (12, -18), (-12, -18)):
            self.assertEqual(shared(one, two), 6)

    def test_noughts(self):
        self.assertEqual(shared(0, 0), 0)
        for one in (1, 5, GREAT):
            for sign in (1, -1):
                self.assertEqual(shared(0, sign * one), one)
                self.assertEqual(shared(sign * one, 0), one)

    def test_alike_and_multiples(self):
        self.assertEqual(shared(15, 15), 15)
        self.assertEqual(shared(-15, -15), 15)
        self.assertEqual(shared(15, -15), 15)
        self.assertEqual(shared(5, 35), 5)
        self.assertEqual(shared(35, -5), 5)

    def test_great_numbers(self):
        self.assertEqual(shared(GREAT * 6, GREAT * 35), GREAT)
        self.assertEqual(shared(-GREATER * 4, GREATER * 6), GREATER * 2)
        self.assertEqual(shared(10 ** 2000 * 3, -10 ** 1999 * 7), 10 ** 1999)

    def test_every_pair(self):
        for one in WHOLE:
            for two in WHOLE:
                self.assertEqual(shared(one, two), math.gcd(one, two))
                self.assertIs(type(shared(one, two)), int)


class MadeFraction(Checked):
    def test_lowest_terms(self):
        self.assert_told(fraction(6, 4), (3, 2))
        self.assert_told(fraction(3, 2), (3, 2))
        self.assert_told(fraction(8, 4), (2, 1))
        self.assert_told(fraction(5, 5), (1, 1))

    def test_signs(self):
        self.assert_told(fraction(-6, 4), (-3, 2))
        self.assert_told(fraction(6, -4), (-3, 2))
        self.assert_told(fraction(-6, -4), (3, 2))
        self.assert_told(fraction(-1, 3), (-1, 3))
        self.assert_told(fraction(1, -3), (-1, 3))

    def test_top_of_nought(self):
        for bottom in (1, -1, 7, -7, GREAT, -GREAT):
            self.assert_told(fraction(0, bottom), (0, 1))

    def test_bottom_of_nought_is_refused(self):
        for top in (0, 1, -1, GREAT, -GREAT):
            with self.assertRaises(BadMoment):
                fraction(top, 0)

    def test_great_numbers(self):
        self.assert_told(fraction(GREAT * 6, -GREAT * 4), (-3, 2))
        self.assert_told(fraction(GREATER * 10 ** 30, GREAT * 10 ** 30), (GREATER, GREAT))

    def test_numbers_beyond_what_python_writes_as_text(self):
        self.assert_told(fraction(10 ** 5000 * 6, -10 ** 5000 * 4), (-3, 2))
        with self.assertRaises(BadMoment):
            fraction(10 ** 5000, 0)

    def test_every_pair(self):
        for top in WHOLE:
            for bottom in WHOLE:
                if bottom != 0:
                    self.assert_told(fraction(top, bottom), told(Fraction(top, bottom)))


class Reckoning(Checked):
    def test_ordinary(self):
        self.assert_told(plus((1, 6), (1, 3)), (1, 2))
        self.assert_told(minus((1, 2), (1, 3)), (1, 6))
        self.assert_told(minus((1, 3), (1, 2)), (-1, 6))
        self.assert_told(times((5, 6), 4), (10, 3))
        self.assert_told(half_way((1, 2), (1, 3)), (5, 12))
        self.assert_told(half_way((1, 1), (2, 1)), (3, 2))

    def test_a_fraction_with_itself(self):
        for one in FRACTIONS:
            exact = Fraction(*one)
            self.assert_told(plus(one, one), told(exact * 2))
            self.assert_told(minus(one, one), (0, 1))
            self.assert_told(half_way(one, one), one)

    def test_sums_that_come_to_nought_or_to_a_whole_number(self):
        self.assert_told(plus((-3, 7), (3, 7)), (0, 1))
        self.assert_told(plus((1, 2), (3, 2)), (2, 1))
        self.assert_told(plus((-5, 2), (1, 2)), (-2, 1))
        self.assert_told(minus((7, 3), (1, 3)), (2, 1))
        self.assert_told(half_way((-3, 7), (3, 7)), (0, 1))
        self.assert_told(half_way((1, 2), (7, 2)), (2, 1))
        self.assert_told(times((5, 7), 14), (10, 1))

    def test_times_nought_and_below(self):
        for one in FRACTIONS:
            self.assert_told(times(one, 0), (0, 1))
            self.assert_told(times(one, 1), one)
            self.assert_told(times(one, -1), (-one[0], one[1]))
        self.assert_told(times((5, 6), -4), (-10, 3))
        self.assert_told(times((-5, 6), -4), (10, 3))

    def test_great_numbers(self):
        self.assert_told(plus((1, GREAT), (-1, GREAT)), (0, 1))
        self.assert_told(minus((1, GREAT), (1, GREAT + 1)), (1, GREAT * (GREAT + 1)))
        self.assert_told(times((7, GREAT * 2), GREAT), (7, 2))
        self.assert_told(half_way((0, 1), (1, GREAT)), (1, GREAT * 2))

    def test_every_pair(self):
        for one in FRACTIONS:
            for two in FRACTIONS:
                exact, other = Fraction(*one), Fraction(*two)
                self.assert_told(plus(one, two), told(exact + other))
                self.assert_told(minus(one, two), told(exact - other))
                self.assert_told(half_way(one, two), told((exact + other) / 2))
            for many in WHOLE:
                self.assert_told(times(one, many), told(Fraction(*one) * many))


class Comparing(unittest.TestCase):
    def test_ordinary_and_signs(self):
        self.assertIs(less((1, 3), (1, 2)), True)
        self.assertIs(less((1, 2), (1, 3)), False)
        self.assertIs(less((-1, 2), (-1, 3)), True)
        self.assertIs(less((-1, 3), (-1, 2)), False)
        self.assertIs(less((-1, 2), (1, 3)), True)
        self.assertIs(less((1, 3), (-1, 2)), False)
        self.assertIs(less((-1, 9), (0, 1)), True)
        self.assertIs(less((0, 1), (1, 9)), True)

    def test_a_fraction_with_itself(self):
        for one in FRACTIONS:
            self.assertIs(less(one, one), False)

    def test_a_difference_of_1_over_a_very_great_number(self):
        for sign in (1, -1):
            one, two = fraction(sign * (GREAT - 1), GREAT), (sign, 1)
            self.assertIs(less(one, two), sign > 0)
            self.assertIs(less(two, one), sign < 0)
        near, far = (1, GREAT + 1), (1, GREAT)
        self.assertIs(less(near, far), True)
        self.assertIs(less(far, near), False)

    def test_every_pair(self):
        for one in FRACTIONS:
            for two in FRACTIONS:
                self.assertIs(less(one, two), Fraction(*one) < Fraction(*two))

    def test_floor_of_whole_ones(self):
        for whole in WHOLE:
            self.assertEqual(floor_of((whole, 1)), whole)

    def test_floor_of_others(self):
        self.assertEqual(floor_of((7, 2)), 3)
        self.assertEqual(floor_of((1, 2)), 0)
        self.assertEqual(floor_of((-1, 2)), -1)
        self.assertEqual(floor_of((-7, 2)), -4)
        self.assertEqual(floor_of((-1, GREAT)), -1)
        self.assertEqual(floor_of((GREAT * GREAT - 1, GREAT)), GREAT - 1)
        for one in FRACTIONS:
            self.assertEqual(floor_of(one), math.floor(Fraction(*one)))
            self.assertIs(type(floor_of(one)), int)


class Forms(unittest.TestCase):
    def test_lowest_terms(self):
        for pair in (*FRACTIONS, (0, 1), (-7, 2), (1, 61)):
            self.assertIs(in_lowest_terms(pair), True)
        for pair in ((0, 0), (1, 0), (-1, 0), (0, 2), (2, 2), (-6, 4), (1, -1), (0, -1), (-1, -2), (GREAT, GREAT)):
            self.assertIs(in_lowest_terms(pair), False)

    def test_the_last_row_by_a_moment(self):
        rows = [((-1, 2), "a"), ((3, 1), "b"), ((10, 3), "c")]
        for moment, at in (
            ((-1, 1), -1), ((-1, 2), 0), ((0, 1), 0), ((3, 1), 1), ((19, 6), 1), ((10, 3), 2), ((GREAT, 1), 2),
        ):
            self.assertEqual(last_by(rows, moment), at)
        self.assertEqual(last_by([], (0, 1)), -1)
        self.assertEqual(len(rows), 3)


if __name__ == "__main__":
    unittest.main()
