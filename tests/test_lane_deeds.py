"""Points 3, 9, 12, 17 and 21: joining, leaving, turning and about, with their refusals."""

import unittest

from lanes import LaneChecked, all_told, lane_of
from overhaul.errors import BadName, Full, NoCraft, Taken, TooFar
from overhaul.lane import Lane

BAD_NAMES = ("", "A", "aB", "a b", " ", "a ", " a", "a-", "a_", "abcdefghi", "123456789", "a\n", "\n", "~", "a.b")
TWELVE = [f"c{number}" for number in range(12)]


def full_lane():
    return lane_of(*[(name, place, 0) for place, name in enumerate(TWELVE)])


class Joining(LaneChecked):
    def test_a_lane_at_first(self):
        lane = Lane()
        self.assert_told(lane.clock(), (0, 1))
        self.assertEqual(lane.order(), [])
        self.assertEqual(lane.bells(), [])
        self.assertEqual(lane.order_at((0, 1)), [])

    def test_at_the_clocks_moment(self):
        lane = Lane()
        self.assertIsNone(lane.join("a", 5, -2))
        lane.go_to((7, 2))
        self.assertIsNone(lane.join("b", -5, 3))
        self.assertEqual(lane.history("a"), [((0, 1), (5, 1), -2)])
        self.assertEqual(lane.history("b"), [((7, 2), (-5, 1), 3)])
        self.assert_told(lane.place("a"), (-2, 1))
        self.assert_told(lane.place("b"), (-5, 1))
        self.assert_order(lane, ["b", "a"])

    def test_good_names(self):
        lane = lane_of(*[(name, 0, 0) for name in ("a", "z", "0", "9", "a0", "abcdefgh", "12345678", "0a0a0a0a")])
        self.assert_order(lane, ["0", "0a0a0a0a", "12345678", "9", "a", "a0", "abcdefgh", "z"])

    def test_bad_names(self):
        lane = lane_of(("a", 0, 0))
        ahead = all_told(lane)
        for name in BAD_NAMES:
            with self.subTest(name):
                self.assert_refused(BadName, lane.join, name, 0, 0)
                self.assert_refused(NoCraft, lane.history, name)
                self.assertEqual(all_told(lane), ahead)

    def test_places_and_paces_at_the_bound(self):
        lane = Lane()
        lane.join("a", 1000000, 1000)
        lane.join("b", -1000000, -1000)
        self.assert_told(lane.place("a"), (1000000, 1))
        self.assert_told(lane.place("b"), (-1000000, 1))
        self.assertEqual(lane.history("a")[0][2], 1000)
        self.assertEqual(lane.history("b")[0][2], -1000)

    def test_places_and_paces_beyond_the_bound(self):
        lane = lane_of(("a", 0, 0))
        ahead = all_told(lane)
        for place, pace in ((1000001, 0), (-1000001, 0), (0, 1001), (0, -1001), (10 ** 5000, 0), (0, -10 ** 5000)):
            self.assert_refused(TooFar, lane.join, "b", place, pace)
            self.assert_refused(NoCraft, lane.history, "b")
        self.assertEqual(all_told(lane), ahead)
        lane.join("b", 1000000, -1000)

    def test_a_name_that_is_there(self):
        lane = lane_of(("a", 0, 0))
        ahead = all_told(lane)
        self.assert_refused(Taken, lane.join, "a", 5, 5)
        self.assertEqual(all_told(lane), ahead)

    def test_a_name_that_left(self):
        lane = lane_of(("a", 0, 0))
        lane.leave("a")
        self.assert_refused(Taken, lane.join, "a", 5, 5)
        lane.go_to((1, 1))
        ahead = all_told(lane)
        self.assert_refused(Taken, lane.join, "a", 5, 5)
        self.assertEqual(all_told(lane), ahead)

    def test_the_thirteenth(self):
        lane = full_lane()
        ahead = all_told(lane)
        self.assert_refused(Full, lane.join, "late", 5, 5)
        self.assert_refused(NoCraft, lane.history, "late")
        self.assertEqual(all_told(lane), ahead)
        self.assertEqual(len(lane.order()), 12)

    def test_room_again_when_one_has_left(self):
        lane = full_lane()
        lane.leave("c3")
        lane.join("late", 5, 5)
        self.assert_refused(Full, lane.join, "later", 5, 5)
        lane.go_to((1, 1))
        self.assert_refused(Full, lane.join, "later", 5, 5)
        lane.leave("late")
        lane.join("later", 5, 5)
        self.assert_refused(Full, lane.join, "last", 5, 5)

    def test_far_more_than_twelve_one_behind_the_other(self):
        lane = Lane()
        for number in range(40):
            lane.join(f"n{number}", 0, 0)
            lane.leave(f"n{number}")
        self.assertEqual(lane.order(), [])
        self.assertEqual(len(lane.history("n0")), 1)

    def test_refusals_in_their_order(self):
        lane = full_lane()
        ahead = all_told(lane)
        self.assert_refused(BadName, lane.join, "A", 1000001, 0)
        self.assert_refused(BadName, lane.join, "", 0, 1001)
        self.assert_refused(BadName, lane.join, "A", 0, 0)
        self.assert_refused(TooFar, lane.join, "c0", 1000001, 0)
        self.assert_refused(TooFar, lane.join, "c0", 0, -1001)
        self.assert_refused(TooFar, lane.join, "late", -1000001, 1001)
        self.assert_refused(Taken, lane.join, "c0", 0, 0)
        self.assert_refused(Full, lane.join, "late", 0, 0)
        self.assertEqual(all_told(lane), ahead)


class Leaving(LaneChecked):
    def test_one_leaves(self):
        lane = lane_of(("a", 0, 1), ("b", 5, 2), ("c", 9, 0))
        lane.go_to((1, 2))
        self.assertIsNone(lane.leave("b"))
        self.assert_order(lane, ["a", "c"])
        self.assert_told(lane.left("b"), (1, 2))
        self.assertIsNone(lane.left("a"))
        self.assertEqual(lane.history("b"), [((0, 1), (5, 1), 2)])
        self.assertEqual(lane.history("a"), [((0, 1), (0, 1), 1)])
        self.assertEqual(lane.bells(), [((9, 1), "a", "c")])

    def test_all_leave(self):
        lane = lane_of(("a", 0, 1), ("b", 5, 2))
        lane.leave("a")
        lane.leave("b")
        self.assertEqual(lane.order(), [])
        self.assertEqual(lane.bells(), [])
        self.assertEqual((lane.left("a"), lane.left("b")), ((0, 1), (0, 1)))
        self.assertEqual(lane.go_to((5, 1)), [])

    def test_nobody_there_is_so_called(self):
        lane = lane_of(("a", 0, 1), ("b", 5, 2))
        lane.leave("b")
        lane.go_to((1, 1))
        ahead = all_told(lane)
        for name in ("b", "c", "aa") + BAD_NAMES:
            self.assert_refused(NoCraft, lane.leave, name)
        self.assertEqual(all_told(lane), ahead)
        self.assert_told(lane.left("b"), (0, 1))


class Turning(LaneChecked):
    def test_a_turn_goes_into_the_log(self):
        lane = lane_of(("a", 0, 3), ("b", 50, 0))
        lane.go_to((1, 2))
        self.assertIsNone(lane.turn("a", -4))
        self.assert_told(lane.place("a"), (3, 2))
        self.assertEqual(lane.history("a"), [((0, 1), (0, 1), 3), ((1, 2), (3, 2), -4)])
        lane.turn("a", 7)
        self.assertEqual(lane.history("a"), [((0, 1), (0, 1), 3), ((1, 2), (3, 2), 7)])
        lane.turn("a", 3)
        self.assertEqual(lane.history("a"), [((0, 1), (0, 1), 3)])
        lane.go_to((1, 1))
        lane.turn("a", 3)
        self.assertEqual(lane.history("a"), [((0, 1), (0, 1), 3)])
        self.assertEqual(lane.history("b"), [((0, 1), (50, 1), 0)])

    def test_at_the_joining(self):
        lane = lane_of(("a", 0, 3))
        lane.turn("a", -3)
        self.assertEqual(lane.history("a"), [((0, 1), (0, 1), -3)])
        lane.turn("a", -3)
        self.assertEqual(lane.history("a"), [((0, 1), (0, 1), -3)])

    def test_turns_of_craft_at_one_place_change_the_order(self):
        lane = lane_of(("a", 7, 1), ("b", 7, 2), ("c", 7, 3))
        self.assert_order(lane, ["a", "b", "c"])
        lane.turn("a", 9)
        self.assert_order(lane, ["b", "c", "a"])
        lane.turn("c", -9)
        self.assert_order(lane, ["c", "b", "a"])
        lane.turn("a", 2)
        self.assert_order(lane, ["c", "a", "b"])
        self.assertEqual(lane.bells(), [])
        self.assertEqual(lane.go_to((100, 1)), [])

    def test_turns_change_the_bells(self):
        lane = lane_of(("a", 0, 2), ("b", 10, 1), ("c", 20, 1))
        self.assertEqual(lane.bells(), [((10, 1), "a", "b")])
        lane.turn("b", 6)
        self.assertEqual(lane.bells(), [((2, 1), "b", "c")])
        lane.turn("a", 7)
        self.assertEqual(lane.bells(), [((2, 1), "b", "c"), ((10, 1), "a", "b")])
        lane.turn("b", -3)
        lane.turn("c", 7)
        self.assertEqual(lane.bells(), [((1, 1), "a", "b")])

    def test_paces_at_the_bound_and_beyond(self):
        lane = lane_of(("a", 0, 3))
        for pace in (1000, -1000):
            lane.turn("a", pace)
            self.assertEqual(lane.history("a"), [((0, 1), (0, 1), pace)])
        ahead = all_told(lane)
        for pace in (1001, -1001, 10 ** 5000):
            self.assert_refused(TooFar, lane.turn, "a", pace)
        self.assertEqual(all_told(lane), ahead)

    def test_nobody_there_is_so_called(self):
        lane = lane_of(("a", 0, 3), ("b", 0, 3))
        lane.leave("b")
        ahead = all_told(lane)
        for name in ("b", "c") + BAD_NAMES:
            self.assert_refused(NoCraft, lane.turn, name, 4)
            self.assert_refused(NoCraft, lane.turn, name, 1001)
        self.assertEqual(all_told(lane), ahead)


class About(LaneChecked):
    def test_without_craft(self):
        lane = Lane()
        self.assertIsNone(lane.about())
        self.assertEqual(all_told(lane), all_told(Lane()))

    def test_each_pace_with_the_sign_turned(self):
        lane = lane_of(("a", 0, 3), ("b", 5, -2), ("c", 9, 0), ("d", 9, 1))
        lane.leave("d")
        lane.go_to((1, 2))
        self.assertIsNone(lane.about())
        self.assertEqual(lane.history("a"), [((0, 1), (0, 1), 3), ((1, 2), (3, 2), -3)])
        self.assertEqual(lane.history("b"), [((0, 1), (5, 1), -2), ((1, 2), (4, 1), 2)])
        self.assertEqual(lane.history("c"), [((0, 1), (9, 1), 0)])
        self.assertEqual(lane.history("d"), [((0, 1), (9, 1), 1)])
        self.assertEqual(lane.left("d"), (0, 1))

    def test_twice_at_one_moment(self):
        lane = lane_of(("a", 0, 3), ("b", 5, -2), ("c", 9, 0))
        lane.go_to((1, 2))
        ahead = all_told(lane)
        lane.about()
        self.assertNotEqual(all_told(lane), ahead)
        lane.about()
        self.assertEqual(all_told(lane), ahead)

    def test_at_the_joining(self):
        lane = lane_of(("a", 0, 1000), ("b", 0, -1000))
        lane.about()
        self.assertEqual(lane.history("a"), [((0, 1), (0, 1), -1000)])
        self.assertEqual(lane.history("b"), [((0, 1), (0, 1), 1000)])
        self.assert_order(lane, ["a", "b"])

    def test_it_turns_the_order_at_one_place(self):
        lane = lane_of(("a", 7, 1), ("b", 7, 2), ("c", 7, 2), ("d", 7, -3))
        self.assert_order(lane, ["d", "a", "b", "c"])
        lane.about()
        self.assert_order(lane, ["b", "c", "a", "d"])
        self.assertEqual(lane.foretold((1000, 1)), [])

    def test_as_if_each_were_turned_by_itself(self):
        craft = (("a", 0, 3), ("b", 5, -2), ("c", 9, 0), ("d", 9, 4), ("e", -3, 4))
        lane, other = lane_of(*craft), lane_of(*craft)
        for moment in ((1, 2), (5, 3), (5, 3), (4, 1)):
            lane.go_to(moment)
            other.go_to(moment)
            lane.about()
            for name, place, pace in craft:
                other.turn(name, -other.history(name)[-1][2])
            self.assertEqual(all_told(lane), all_told(other))


if __name__ == "__main__":
    unittest.main()
