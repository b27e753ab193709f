"""Points 4 and 5: places on legs, meetings, and who lies behind."""

import unittest
from fractions import Fraction

from checked import Checked, told
from overhaul.legs import lies_behind, meeting, place_on

GREAT = 10 ** 35 + 3
MOMENTS = ((0, 1), (1, 1), (-1, 1), (7, 3), (-5, 2), (1, GREAT), (-GREAT, 1))
PLACES = ((0, 1), (10, 1), (-7, 4), (1, GREAT), (GREAT, 3))
PACES = (0, 1, -1, 5, -1000, GREAT)
LEGS = [(moment, place, pace) for moment in MOMENTS for place in PLACES for pace in PACES]


def exact_place(leg, moment):
    (top, bottom), (place_top, place_bottom), pace = leg
    return Fraction(place_top, place_bottom) + pace * (Fraction(*moment) - Fraction(top, bottom))


class PlaceOn(Checked):
    def test_later_and_at_the_legs_moment(self):
        leg = ((2, 1), (10, 1), 3)
        self.assert_told(place_on(leg, (5, 1)), (19, 1))
        self.assert_told(place_on(leg, (2, 1)), (10, 1))

    def test_earlier_and_below_nought(self):
        leg = ((2, 1), (10, 1), 3)
        self.assert_told(place_on(leg, (1, 1)), (7, 1))
        self.assert_told(place_on(leg, (0, 1)), (4, 1))
        self.assert_told(place_on(leg, (-2, 1)), (-2, 1))
        self.assert_told(place_on(((-3, 1), (10, 1), 3), (-5, 1)), (4, 1))
        self.assert_told(place_on(((-3, 1), (10, 1), 3), (0, 1)), (19, 1))

    def test_pace_of_nought_and_below(self):
        for moment in MOMENTS:
            self.assert_told(place_on(((2, 1), (-7, 4), 0), moment), (-7, 4))
        self.assert_told(place_on(((2, 1), (10, 1), -3), (5, 1)), (1, 1))
        self.assert_told(place_on(((2, 1), (10, 1), -3), (0, 1)), (16, 1))

    def test_fractions(self):
        leg = ((1, 2), (1, 3), 5)
        self.assert_told(place_on(leg, (7, 6)), (11, 3))
        self.assert_told(place_on(leg, (13, 30)), (0, 1))
        self.assert_told(place_on(leg, (-1, 6)), (-3, 1))

    def test_every_leg_at_every_moment(self):
        for leg in LEGS:
            for moment in MOMENTS:
                self.assert_told(place_on(leg, moment), told(exact_place(leg, moment)))


class Meeting(Checked):
    def test_ordinary(self):
        self.assert_told(meeting(((0, 1), (0, 1), 5), ((0, 1), (10, 1), 2)), (10, 3))
        self.assert_told(meeting(((0, 1), (0, 1), 3), ((2, 1), (10, 1), -1)), (3, 1))

    def test_none_for_like_paces(self):
        for leg in LEGS:
            self.assertIsNone(meeting(leg, leg))
        self.assertIsNone(meeting(((0, 1), (0, 1), 2), ((0, 1), (1, 1), 2)))
        # Two legs of one line: they are at one place always, and meet at none.
        self.assertIsNone(meeting(((0, 1), (0, 1), 2), ((3, 1), (6, 1), 2)))
        self.assertIsNone(meeting(((0, 1), (0, 1), 0), ((3, 1), (6, 1), 0)))

    def test_below_nought(self):
        self.assert_told(meeting(((0, 1), (10, 1), 5), ((0, 1), (0, 1), 2)), (-10, 3))
        self.assert_told(meeting(((-4, 1), (0, 1), 1), ((-4, 1), (1, 1), 0)), (-3, 1))

    def test_at_nought_and_at_the_legs_own_moment(self):
        self.assert_told(meeting(((0, 1), (3, 1), 5), ((0, 1), (3, 1), -5)), (0, 1))
        self.assert_told(meeting(((7, 3), (3, 1), 5), ((7, 3), (3, 1), 4)), (7, 3))

    def test_every_pair(self):
        for one in LEGS[::2]:
            for other in LEGS[1::3]:
                met = meeting(one, other)
                self.assertEqual(met, meeting(other, one))
                self.assertEqual(met is None, one[2] == other[2])
                if met is not None:
                    self.assert_told(met, told(Fraction(*met)))
                    self.assertEqual(exact_place(one, met), exact_place(other, met))


class LiesBehind(unittest.TestCase):
    def assert_behind(self, hind, fore, moment):
        """The one lies behind the other, and so not the other behind the one."""
        self.assertIs(lies_behind(*hind, *fore, moment), True)
        self.assertIs(lies_behind(*fore, *hind, moment), False)

    def test_by_place_whatever_pace_and_name(self):
        self.assert_behind(("z", ((0, 1), (1, 1), 9)), ("a", ((0, 1), (2, 1), -9)), (0, 1))
        self.assert_behind(("a", ((0, 1), (1, 1), -9)), ("z", ((0, 1), (2, 1), 9)), (0, 1))
        self.assert_behind(("z", ((0, 1), (-2, 1), 9)), ("a", ((0, 1), (-1, 1), -9)), (0, 1))

    def test_the_place_is_that_of_the_moment_asked_for(self):
        fast, slow = ("f", ((0, 1), (0, 1), 5)), ("s", ((0, 1), (10, 1), 2))
        self.assert_behind(fast, slow, (0, 1))
        self.assert_behind(fast, slow, (3, 1))
        self.assert_behind(fast, slow, (-100, 1))
        self.assert_behind(slow, fast, (10, 3))
        self.assert_behind(slow, fast, (4, 1))

    def test_at_one_place_by_pace_whatever_the_name(self):
        for moment in MOMENTS:
            self.assert_behind(("z", (moment, (3, 2), 1)), ("a", (moment, (3, 2), 2)), moment)
            self.assert_behind(("a", (moment, (3, 2), -2)), ("z", (moment, (3, 2), -1)), moment)
            self.assert_behind(("z", (moment, (3, 2), -1)), ("a", (moment, (3, 2), 0)), moment)

    def test_at_one_place_with_one_pace_by_name(self):
        names = ["0", "00", "09", "9", "9a", "a", "a0", "a9", "aa", "aaaaaaaa", "ab", "b", "b0", "z", "z9", "zz"]
        leg, same_line = ((0, 1), (6, 1), 2), ((3, 2), (9, 1), 2)
        for at, hind in enumerate(names):
            for fore in names[at + 1:]:
                self.assert_behind((hind, leg), (fore, same_line), (5, 7))
                self.assert_behind((hind, same_line), (fore, leg), (-5, 7))

    def test_texts_that_are_no_good_names_too(self):
        leg = ((0, 1), (6, 1), 2)
        self.assert_behind(("", leg), ("a", leg), (0, 1))
        self.assert_behind(("Zoo", leg), ("a", leg), (0, 1))

    def test_places_that_differ_by_1_over_a_very_great_number(self):
        for place in ((1, 3), (-1, 3), (0, 1), (GREAT, 1)):
            beyond = told(Fraction(*place) + Fraction(1, GREAT ** 2))
            self.assert_behind(("z", ((0, 1), place, 9)), ("a", ((0, 1), beyond, 1)), (0, 1))

    def test_every_pair(self):
        for one in LEGS[::4]:
            for other in LEGS[1::5]:
                for moment in MOMENTS:
                    key = (exact_place(one, moment), one[2], "b")
                    other_key = (exact_place(other, moment), other[2], "a1")
                    self.assertIs(lies_behind("b", one, "a1", other, moment), key < other_key)


if __name__ == "__main__":
    unittest.main()
