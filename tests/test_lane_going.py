"""Points 10, 11, 17 and 21: going, foretelling, and the passings that they tell."""

import unittest
from fractions import Fraction

from checked import told
from lanes import LaneChecked, all_told, lane_of
from overhaul.errors import BadMoment, Past
from overhaul.lane import Lane

BAD_MOMENTS = (
    (1, 0), (0, 0), (-1, 0), (1, -1), (0, -1), (-1, -2), (7, -60),
    (2, 2), (2, 4), (0, 2), (0, 60), (30, 60), (-2, 4), (12, 8),
    (1, 61), (0, 61), (61, 61), (122, 61), (1, 10 ** 5000),
    (-1, 1), (-1, 60), (-1000000, 1), (-10 ** 5000, 1),
    (1000001, 1), (60000001, 60), (2000001, 2), (10 ** 5000, 1),
)


def in_steps(lane, moments):
    """All that going to each of these moments tells."""
    return [passing for moment in moments for passing in lane.go_to(moment)]


class Moments(LaneChecked):
    def test_the_clock_goes_on(self):
        lane = Lane()
        for moment in ((1, 60), (1, 59), (1, 2), (7, 3), (59999999, 60), (1000000, 1)):
            self.assertEqual(lane.foretold(moment), [])
            self.assertEqual(lane.go_to(moment), [])
            self.assert_told(lane.clock(), moment)

    def test_bad_moments(self):
        lane = lane_of(("a", 0, 2), ("b", 10, 1))
        for clock in ((0, 1), (1, 2)):
            lane.go_to(clock)
            ahead = all_told(lane)
            for moment in BAD_MOMENTS:
                with self.subTest(str(moment)[:40] if abs(moment[0]) + abs(moment[1]) < 10 ** 99 else "great"):
                    self.assert_refused(BadMoment, lane.go_to, moment)
                    self.assert_refused(BadMoment, lane.foretold, moment)
            self.assertEqual(all_told(lane), ahead)

    def test_past(self):
        lane = lane_of(("a", 0, 2), ("b", 10, 1))
        lane.go_to((7, 2))
        ahead = all_told(lane)
        for moment in ((0, 1), (1, 1), (3, 1), (209, 60), (1, 60)):
            self.assert_refused(Past, lane.go_to, moment)
            self.assert_refused(Past, lane.foretold, moment)
        self.assertEqual(all_told(lane), ahead)

    def test_a_bad_moment_goes_ahead_of_the_past(self):
        lane = Lane()
        lane.go_to((7, 2))
        for moment in ((-1, 1), (2, 2), (1, 61), (1, 0), (1, -1), (0, 3)):
            self.assert_refused(BadMoment, lane.go_to, moment)
            self.assert_refused(BadMoment, lane.foretold, moment)

    def test_to_the_clocks_own_moment(self):
        lane = lane_of(("a", 0, 2), ("b", 10, 1), ("c", 10, 0))
        for clock in ((0, 1), (5, 1), (1000000, 1)):
            lane.go_to(clock)
            ahead = all_told(lane)
            self.assertEqual(lane.foretold(clock), [])
            self.assertEqual(lane.go_to(clock), [])
            self.assertEqual(all_told(lane), ahead)


class Passings(LaneChecked):
    def test_one_overhauls_another(self):
        lane = lane_of(("fast", 0, 5), ("slow", 10, 2))
        self.assert_order(lane, ["fast", "slow"])
        self.assertEqual(lane.go_to((10, 1)), [((10, 3), "fast", "slow")])
        self.assert_order(lane, ["slow", "fast"])
        self.assertEqual(lane.go_to((20, 1)), [])

    def test_craft_that_go_back_and_craft_that_stand(self):
        lane = lane_of(("a", 10, -5), ("b", 0, -2))
        self.assertEqual(lane.go_to((10, 1)), [((10, 3), "b", "a")])
        lane = lane_of(("a", 10, -5), ("b", 0, 0))
        self.assertEqual(lane.go_to((2, 1)), [((2, 1), "b", "a")])
        lane = lane_of(("a", -10, 5), ("b", 0, 0))
        self.assertEqual(lane.go_to((2, 1)), [((2, 1), "a", "b")])
        lane = lane_of(("a", -10, 5), ("b", 10, -5))
        self.assertEqual(lane.go_to((2, 1)), [((2, 1), "a", "b")])

    def test_a_moment_with_a_great_bottom(self):
        lane = lane_of(("a", 0, 1000), ("b", 1, 1), ("c", 999983, -1000))
        self.assertEqual(lane.go_to((1000000, 1)), [
            ((1, 999), "a", "b"), ((999983, 2000), "a", "c"), ((999982, 1001), "b", "c")])

    def test_a_going_that_ends_at_the_very_moment_of_a_meeting(self):
        lane = lane_of(("a", 0, 3), ("b", 10, 1))
        self.assertEqual(lane.go_to((299, 60)), [])
        self.assertEqual(lane.go_to((5, 1)), [((5, 1), "a", "b")])
        # Just behind the meeting a lies ahead: so it lies at the meeting already.
        self.assert_order(lane, ["b", "a"])
        self.assertEqual(lane.go_to((5, 1)), [])
        self.assertEqual(lane.go_to((301, 60)), [])
        self.assertEqual(lane.go_to((100, 1)), [])

    def test_a_meeting_just_beyond_the_end_of_a_going(self):
        lane = lane_of(("a", 0, 7), ("b", 1, 0))
        self.assertEqual(lane.go_to((8, 57)), [])
        self.assertEqual(lane.go_to((1, 7)), [((1, 7), "a", "b")])

    def test_many_at_one_moment_at_one_place(self):
        craft = [("e", -20, 5), ("d", -16, 4), ("c", -12, 3), ("b", 0, 0), ("a", 12, -3)]
        lane = lane_of(*craft)
        self.assertEqual(lane.bells(), [((4, 1), "b", "a"), ((4, 1), "c", "b"), ((4, 1), "d", "c"), ((4, 1), "e", "d")])
        met = (4, 1)
        self.assertEqual(lane.go_to(met), [
            (met, "b", "a"), (met, "c", "a"), (met, "c", "b"), (met, "d", "a"), (met, "d", "b"), (met, "d", "c"),
            (met, "e", "a"), (met, "e", "b"), (met, "e", "c"), (met, "e", "d")])
        self.assert_order(lane, ["a", "b", "c", "d", "e"])
        self.assertEqual([lane.place(name) for name in "abcde"], [(0, 1)] * 5)
        self.assertEqual(lane.go_to((1000, 1)), [])

    def test_craft_of_one_pace_are_met_one_by_one(self):
        lane = lane_of(("x", 0, 5), ("b", 10, 0), ("a", 10, 0))
        self.assert_order(lane, ["x", "a", "b"])
        self.assertEqual(lane.bells(), [((2, 1), "x", "a")])
        self.assertEqual(lane.go_to((2, 1)), [((2, 1), "x", "a"), ((2, 1), "x", "b")])
        self.assert_order(lane, ["a", "b", "x"])

    def test_several_at_one_moment_at_unlike_places(self):
        lane = lane_of(("d", 0, 2), ("c", 2, 1), ("b", 10, 9), ("a", 20, 4), ("e", 21, -1))
        self.assertEqual(lane.go_to((2, 1)), [
            ((1, 5), "a", "e"), ((11, 10), "b", "e"), ((2, 1), "b", "a"), ((2, 1), "d", "c")])
        self.assert_order(lane, ["c", "d", "e", "a", "b"])

    def test_craft_at_one_place_with_like_paces(self):
        lane = lane_of(("b", 3, 4), ("a", 3, 4), ("c", 3, 4))
        self.assert_order(lane, ["a", "b", "c"])
        self.assertEqual(lane.bells(), [])
        self.assertEqual(lane.go_to((50, 1)), [])
        self.assert_order(lane, ["a", "b", "c"])

    def test_craft_that_join_at_one_place_and_part(self):
        lane = lane_of(("a", 3, 4), ("b", 3, -4), ("c", 3, 0))
        self.assert_order(lane, ["b", "c", "a"])
        self.assertEqual(lane.foretold((50, 1)), [])
        self.assertEqual(lane.go_to((50, 1)), [])

    def test_a_craft_that_joins_where_another_is(self):
        lane = lane_of(("a", 0, 4))
        lane.go_to((1, 2))
        lane.join("b", 2, 9)
        lane.join("c", 2, 1)
        self.assert_order(lane, ["c", "a", "b"])
        self.assertEqual(lane.go_to((50, 1)), [])

    def test_by_moment_then_fast_then_slow(self):
        lane = lane_of(("z", 0, 10), ("y", 10, 0), ("a", 100, 10), ("c", 110, 0), ("b", 110, 0), ("m", 195, 0))
        self.assertEqual(lane.go_to((9, 1)), [((1, 1), "a", "b"), ((1, 1), "a", "c"), ((1, 1), "z", "y")])
        self.assertEqual(lane.go_to((12, 1)), [((19, 2), "a", "m"), ((11, 1), "z", "b"), ((11, 1), "z", "c")])

    def test_joinings_turns_and_about_tell_nothing(self):
        lane = lane_of(("a", 0, 1), ("b", 0, 2))
        self.assertIsNone(lane.turn("a", 3))
        self.assertIsNone(lane.about())
        self.assertIsNone(lane.join("c", 0, 0))
        self.assertEqual(lane.go_to((1, 1)), [])

    def test_on_the_legs_that_they_have(self):
        lane = lane_of(("a", 0, 3), ("b", 10, 1))
        lane.go_to((4, 1))
        lane.turn("a", 1)
        self.assertEqual(lane.go_to((10, 1)), [])
        lane.turn("b", 0)
        self.assertEqual(lane.go_to((20, 1)), [((12, 1), "a", "b")])

    def test_a_pair_may_pass_again_behind_a_turn(self):
        lane = lane_of(("a", 0, 3), ("b", 10, 1))
        self.assertEqual(lane.go_to((6, 1)), [((5, 1), "a", "b")])
        lane.about()
        self.assertEqual(lane.go_to((8, 1)), [((7, 1), "b", "a")])
        lane.about()
        self.assertEqual(lane.go_to((9, 1)), [((9, 1), "a", "b")])
        lane.about()
        self.assertEqual(lane.go_to((10, 1)), [])

    def test_one_that_left_passes_nobody(self):
        lane = lane_of(("a", 0, 3), ("b", 10, 1), ("c", 10, 0))
        lane.leave("b")
        self.assertEqual(lane.go_to((10, 1)), [((10, 3), "a", "c")])

    def test_one_going_and_several_tell_the_same(self):
        craft = [(f"c{at}", (at * 37) % 50, (at * 23) % 19 - 9) for at in range(12)]
        whole = lane_of(*craft)
        passings = whole.go_to((30, 1))
        self.assertGreater(len(passings), 20)
        for step in (Fraction(1), Fraction(1, 2), Fraction(2, 7), Fraction(11, 60)):
            lane = lane_of(*craft)
            moments = [told(step * many) for many in range(int(30 / step) + 1)]
            self.assertEqual(in_steps(lane, moments + [(30, 1)]), passings)
            self.assertEqual(all_told(lane), all_told(whole))
        # By goings that end at the very moments of the meetings.
        lane = lane_of(*craft)
        met = sorted({Fraction(*moment) for moment, fast, slow in passings})
        self.assertEqual(in_steps(lane, [told(moment) for moment in met] + [(30, 1)]), passings)

    def test_foretold_tells_the_same_and_changes_nothing(self):
        lane = lane_of(("a", 0, 9), ("b", 5, 7), ("c", 11, -2), ("d", 12, 0))
        for moment in ((0, 1), (1, 2), (11, 9), (5, 2), (40, 1)):
            ahead = all_told(lane)
            told_ahead = lane.foretold(moment)
            self.assertEqual(all_told(lane), ahead)
            self.assertEqual(lane.foretold(moment), told_ahead)
            self.assertEqual(lane.go_to(moment), told_ahead)

    def test_passings_are_tuples_in_lists_of_the_askers_own(self):
        lane = lane_of(("a", 0, 3), ("b", 10, 1))
        foretold = lane.foretold((5, 1))
        self.assertIs(type(foretold), list)
        self.assertIs(type(foretold[0]), tuple)
        foretold.clear()
        self.assertEqual(lane.foretold((5, 1)), [((5, 1), "a", "b")])
        passings = lane.go_to((5, 1))
        self.assertIs(type(passings), list)
        ahead = all_told(lane)
        passings.clear()
        self.assertEqual(all_told(lane), ahead)


if __name__ == "__main__":
    unittest.main()
