"""Points 7 and 21: what a lane tells of the past, of craft that are there and of craft that left."""

import unittest
from fractions import Fraction

from checked import told
from lanes import LaneChecked, lane_of
from overhaul.errors import NoCraft, NotThere
from overhaul.lane import Lane

GREAT = 10 ** 35 + 3
NEVER = ("nobody", "", "A", "a b", "abcdefghi", "a\n", "~")


def busy_lane():
    """a: 0 to now, turned at 2 and 4; b: 0 to 3; c: from 2; d: joined and left at 3; the clock stands at 5."""
    lane = lane_of(("a", 0, 2), ("b", 6, 0))
    lane.go_to((2, 1))
    lane.turn("a", 4)
    lane.join("c", 5, 1)
    lane.go_to((3, 1))
    lane.turn("b", 7)
    lane.leave("b")
    lane.join("d", 6, 0)
    lane.leave("d")
    lane.go_to((4, 1))
    lane.turn("a", -3)
    lane.go_to((5, 1))
    return lane


class History(LaneChecked):
    def test_of_craft_that_are_there_and_that_left(self):
        lane = busy_lane()
        self.assertEqual(lane.history("a"), [((0, 1), (0, 1), 2), ((2, 1), (4, 1), 4), ((4, 1), (12, 1), -3)])
        self.assertEqual(lane.history("b"), [((0, 1), (6, 1), 0), ((3, 1), (6, 1), 7)])
        self.assertEqual(lane.history("c"), [((2, 1), (5, 1), 1)])
        self.assertEqual(lane.history("d"), [((3, 1), (6, 1), 0)])

    def test_left(self):
        lane = busy_lane()
        self.assertEqual([lane.left(name) for name in "abcd"], [None, (3, 1), None, (3, 1)])
        lane.leave("a")
        self.assert_told(lane.left("a"), (5, 1))
        lane.go_to((6, 1))
        self.assert_told(lane.left("a"), (5, 1))

    def test_leaving_at_nought_is_no_staying(self):
        lane = lane_of(("a", 0, 2))
        lane.leave("a")
        self.assertEqual(lane.left("a"), (0, 1))

    def test_of_nobody(self):
        lane = busy_lane()
        for name in NEVER:
            self.assert_refused(NoCraft, lane.history, name)
            self.assert_refused(NoCraft, lane.left, name)

    def test_a_told_list_is_the_askers_own(self):
        lane = busy_lane()
        legs = lane.history("a")
        self.assertIs(type(legs), list)
        legs.clear()
        lane.history("b").append("more")
        self.assertEqual(len(lane.history("a")), 3)
        self.assertEqual(len(lane.history("b")), 2)
        self.assert_told(lane.place("a"), (9, 1))
        self.assertEqual(lane.order(), ["c", "a"])


class PlaceAt(LaneChecked):
    def test_at_and_between_legs_and_at_the_clock(self):
        lane = busy_lane()
        places = {(0, 1): (0, 1), (1, 2): (1, 1), (2, 1): (4, 1), (7, 3): (16, 3), (4, 1): (12, 1),
                  (9, 2): (21, 2), (5, 1): (9, 1)}
        for moment, place in places.items():
            self.assert_told(lane.place_at("a", moment), place)
        self.assert_told(lane.place_at("c", (2, 1)), (5, 1))
        self.assert_told(lane.place_at("c", (5, 1)), (8, 1))

    def test_moments_of_any_bottom(self):
        lane = busy_lane()
        self.assert_told(lane.place_at("a", (1, GREAT)), (2, GREAT))
        self.assert_told(lane.place_at("a", told(5 - Fraction(1, GREAT))), told(9 + Fraction(3, GREAT)))

    def test_of_one_that_left(self):
        lane = busy_lane()
        self.assert_told(lane.place_at("b", (0, 1)), (6, 1))
        self.assert_told(lane.place_at("b", told(3 - Fraction(1, GREAT))), (6, 1))
        for moment in ((3, 1), (7, 2), (5, 1)):
            self.assert_refused(NotThere, lane.place_at, "b", moment)
        for moment in ((2, 1), (3, 1), (4, 1)):
            self.assert_refused(NotThere, lane.place_at, "d", moment)

    def test_ahead_of_the_joining(self):
        lane = busy_lane()
        for moment in ((-1, 1), (0, 1), (1, 1), told(2 - Fraction(1, GREAT))):
            self.assert_refused(NotThere, lane.place_at, "c", moment)
        for moment in ((-1, 1), (-1, GREAT)):
            self.assert_refused(NotThere, lane.place_at, "a", moment)

    def test_later_than_the_clock(self):
        lane = busy_lane()
        for moment in (told(5 + Fraction(1, GREAT)), (6, 1), (GREAT, 1)):
            for name in "abcd":
                self.assert_refused(NotThere, lane.place_at, name, moment)
        lane.go_to((6, 1))
        self.assert_told(lane.place_at("a", (6, 1)), (6, 1))

    def test_nobody_goes_ahead_of_not_there(self):
        lane = busy_lane()
        for name in NEVER:
            for moment in ((-1, 1), (0, 1), (5, 1), (6, 1)):
                self.assert_refused(NoCraft, lane.place_at, name, moment)


class OrderAt(LaneChecked):
    def test_from_nought_to_the_clock(self):
        lane = busy_lane()
        orders = {(0, 1): ["a", "b"], (1, 1): ["a", "b"], (2, 1): ["a", "c", "b"], (7, 3): ["c", "a", "b"],
                  (5, 2): ["c", "b", "a"], told(3 - Fraction(1, GREAT)): ["c", "b", "a"], (3, 1): ["c", "a"],
                  (4, 1): ["c", "a"], (5, 1): ["c", "a"]}
        for moment, order in orders.items():
            self.assertEqual(lane.order_at(moment), order, moment)

    def test_just_ahead_of_a_joining_and_a_meeting(self):
        lane = busy_lane()
        self.assertEqual(lane.order_at(told(2 - Fraction(1, GREAT))), ["a", "b"])
        self.assertEqual(lane.order_at(told(Fraction(7, 3) - Fraction(1, GREAT))), ["a", "c", "b"])

    def test_at_a_turn_by_the_new_pace(self):
        lane = lane_of(("a", 0, 1), ("b", 0, 1))
        lane.go_to((1, 1))
        lane.turn("a", 2)
        lane.go_to((2, 1))
        self.assertEqual(lane.order_at((1, 2)), ["a", "b"])
        self.assertEqual(lane.order_at((1, 1)), ["b", "a"])
        self.assertEqual(lane.order_at((0, 1)), ["a", "b"])

    def test_by_the_logs_as_they_are_now(self):
        lane = lane_of(("a", 0, 1), ("b", 0, 1), ("c", 9, 0))
        self.assertEqual(lane.order_at((0, 1)), ["a", "b", "c"])
        lane.turn("a", 2)
        self.assertEqual(lane.order_at((0, 1)), ["b", "a", "c"])
        lane.leave("c")
        self.assertEqual(lane.order_at((0, 1)), ["b", "a"])

    def test_other_moments(self):
        lane = busy_lane()
        for moment in ((-1, 1), (-1, GREAT), told(5 + Fraction(1, GREAT)), (6, 1), (GREAT, 1), (-GREAT, 1)):
            self.assert_refused(NotThere, lane.order_at, moment)
        self.assert_refused(NotThere, Lane().order_at, (1, 60))
        self.assertEqual(Lane().order_at((0, 1)), [])

    def test_a_told_list_is_the_askers_own(self):
        lane = busy_lane()
        self.assertIs(type(lane.order_at((5, 1))), list)
        lane.order_at((5, 1)).clear()
        lane.order_at((2, 1)).append("x")
        self.assert_order(lane, ["c", "a"])
        self.assertEqual(lane.order_at((2, 1)), ["a", "c", "b"])


if __name__ == "__main__":
    unittest.main()
