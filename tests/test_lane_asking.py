"""Points 5, 10 and 12: order and bells behind every deed, and what is asked of a lane at its clock."""

import unittest

from lanes import LaneChecked, lane_of
from overhaul.errors import NoCraft
from overhaul.lane import Lane

NOBODY = ("gone", "nobody", "", "A", "a b", "abcdefghi", "a\n", "~")


def lane_with_one_gone(*craft):
    lane = lane_of(("gone", 3, 0), *craft)
    lane.leave("gone")
    return lane


class Order(LaneChecked):
    def test_by_place_then_pace_then_name(self):
        lane = lane_of(("a", 5, 1), ("b", 5, 0), ("c", 5, 1), ("d", 4, 9), ("e", 6, -9), ("aa", 5, 1), ("9", 5, 1))
        self.assert_order(lane, ["d", "b", "9", "a", "aa", "c", "e"])

    def test_behind_a_joining_at_either_end_and_between(self):
        lane = lane_of(("m", 0, 0))
        for name, place, order in (("z", -5, ["z", "m"]), ("a", 5, ["z", "m", "a"]), ("n", 0, ["z", "m", "n", "a"])):
            lane.join(name, place, 0)
            self.assert_order(lane, order)

    def test_behind_a_going_at_and_between_meetings(self):
        lane = lane_of(("a", 0, 3), ("b", 2, 2), ("c", 6, 0))
        for moment, order in (((1, 1), ["a", "b", "c"]), ((119, 60), ["a", "b", "c"]), ((2, 1), ["c", "b", "a"])):
            lane.go_to(moment)
            self.assert_order(lane, order)

    def test_places_that_differ_by_very_little(self):
        lane = lane_of(("a", 0, 1), ("b", 0, 1))
        lane.go_to((1, 59))
        lane.turn("a", 0)
        lane.go_to((1, 58))
        lane.turn("b", 0)
        self.assertEqual([lane.place("a"), lane.place("b")], [(1, 59), (1, 58)])
        self.assert_order(lane, ["a", "b"])
        self.assertEqual(lane.closest(), ((1, 59 * 58), "a", "b"))

    def test_a_told_list_is_the_askers_own(self):
        lane = lane_of(("a", 0, 3), ("b", 2, 2))
        self.assertIs(type(lane.order()), list)
        lane.order().clear()
        lane.order().append("c")
        self.assert_order(lane, ["a", "b"])


class BellsOfALane(LaneChecked):
    def test_none(self):
        self.assertEqual(Lane().bells(), [])
        self.assertEqual(lane_of(("a", 0, 3)).bells(), [])
        self.assertEqual(lane_of(("a", 0, 3), ("b", 5, 3)).bells(), [])
        self.assertEqual(lane_of(("a", 0, 3), ("b", 5, 4)).bells(), [])

    def test_of_neighbours_alone(self):
        # a would come up to c too, but b lies between.
        lane = lane_of(("a", 0, 3), ("b", 5, 2), ("c", 6, 1))
        self.assertEqual(lane.bells(), [((1, 1), "b", "c"), ((5, 1), "a", "b")])
        lane = lane_of(("a", 0, 3), ("b", 5, 4), ("c", 6, 1))
        self.assertEqual(lane.bells(), [((1, 3), "b", "c")])

    def test_alike_moments_by_hind_then_fore(self):
        lane = lane_of(("c", 0, 1), ("d", 5, 0), ("a", 10, 1), ("b", 15, 0))
        self.assertEqual(lane.bells(), [((5, 1), "a", "b"), ((5, 1), "c", "d")])

    def test_of_craft_at_one_place(self):
        lane = lane_of(("a", 0, 3), ("b", 0, 2), ("c", 0, 2))
        self.assertEqual(lane.bells(), [])
        lane.join("d", -6, 4)
        self.assertEqual(lane.bells(), [((3, 1), "d", "b")])

    def test_behind_goings(self):
        lane = lane_of(("a", 0, 3), ("b", 5, 2), ("c", 6, 1))
        lane.go_to((1, 1))
        self.assertEqual(lane.bells(), [((3, 1), "a", "c")])
        lane.go_to((2, 1))
        self.assertEqual(lane.bells(), [((3, 1), "a", "c")])
        lane.go_to((3, 1))
        self.assertEqual(lane.bells(), [((5, 1), "a", "b")])
        lane.go_to((5, 1))
        self.assertEqual(lane.bells(), [])

    def test_behind_a_joining_between_and_a_leaving(self):
        lane = lane_of(("a", 0, 3), ("c", 6, 1))
        self.assertEqual(lane.bells(), [((3, 1), "a", "c")])
        lane.join("b", 4, 2)
        self.assertEqual(lane.bells(), [((2, 1), "b", "c"), ((4, 1), "a", "b")])
        lane.leave("b")
        self.assertEqual(lane.bells(), [((3, 1), "a", "c")])
        lane.leave("c")
        self.assertEqual(lane.bells(), [])

    def test_a_told_list_is_the_askers_own(self):
        lane = lane_of(("a", 0, 3), ("b", 5, 2))
        self.assertIs(type(lane.bells()), list)
        lane.bells().clear()
        self.assertEqual(lane.bells(), [((5, 1), "a", "b")])
        self.assert_told(lane.bells()[0][0], (5, 1))


class RankAndName(LaneChecked):
    def test_rank(self):
        lane = lane_with_one_gone(("a", 5, 0), ("b", 1, 0), ("c", 9, 0))
        self.assertEqual([lane.rank("b"), lane.rank("a"), lane.rank("c")], [0, 1, 2])
        for name in NOBODY:
            self.assert_refused(NoCraft, lane.rank, name)

    def test_name_at(self):
        lane = lane_with_one_gone(("a", 5, 0), ("b", 1, 0), ("c", 9, 0))
        self.assertEqual([lane.name_at(rank) for rank in (0, 1, 2)], ["b", "a", "c"])
        for rank in (-1, -2, -3, -4, 3, 4, 12, 10 ** 30, -10 ** 30):
            self.assertIsNone(lane.name_at(rank))
        for rank in (-1, 0, 1):
            self.assertIsNone(Lane().name_at(rank))


class PlaceNow(LaneChecked):
    def test_place(self):
        lane = lane_with_one_gone(("a", 5, 3), ("b", 1, -2), ("c", 9, 0))
        self.assert_told(lane.place("a"), (5, 1))
        lane.go_to((7, 6))
        self.assert_told(lane.place("a"), (17, 2))
        self.assert_told(lane.place("b"), (-4, 3))
        self.assert_told(lane.place("c"), (9, 1))
        lane.turn("a", -1)
        self.assert_told(lane.place("a"), (17, 2))
        lane.go_to((2, 1))
        self.assert_told(lane.place("a"), (23, 3))

    def test_nobody_there_is_so_called(self):
        lane = lane_with_one_gone(("a", 5, 3))
        for name in NOBODY:
            self.assert_refused(NoCraft, lane.place, name)


class Meets(LaneChecked):
    def test_later_than_the_clock(self):
        lane = lane_of(("a", 0, 3), ("b", 10, 1), ("c", 12, -1))
        for clock in ((0, 1), (1, 1), (299, 60)):
            lane.go_to(clock)
            self.assert_told(lane.meets("a", "b"), (5, 1))
            self.assert_told(lane.meets("b", "a"), (5, 1))

    def test_with_others_between(self):
        lane = lane_of(("a", 0, 3), ("b", 5, 2), ("c", 6, 1))
        self.assert_told(lane.meets("a", "c"), (3, 1))

    def test_at_the_clocks_moment_and_past(self):
        lane = lane_of(("a", 0, 3), ("b", 10, 1))
        lane.go_to((5, 1))
        self.assertIsNone(lane.meets("a", "b"))
        lane.go_to((6, 1))
        self.assertIsNone(lane.meets("a", "b"))
        self.assertIsNone(lane.meets("b", "a"))
        lane = lane_of(("a", 0, 3), ("b", 0, 1), ("c", 4, 9))
        self.assertIsNone(lane.meets("a", "b"))
        # On their legs they would have met below nought.
        self.assertIsNone(lane.meets("a", "c"))

    def test_like_paces(self):
        lane = lane_of(("a", 0, 3), ("b", 10, 3), ("c", 10, 3))
        for name, other in (("a", "b"), ("b", "a"), ("b", "c"), ("c", "b")):
            self.assertIsNone(lane.meets(name, other))

    def test_a_craft_with_itself(self):
        lane = lane_of(("a", 0, 3), ("b", 10, 0))
        self.assertIsNone(lane.meets("a", "a"))
        self.assertIsNone(lane.meets("b", "b"))

    def test_it_changes_with_a_turn(self):
        lane = lane_of(("a", 0, 3), ("b", 10, 1))
        lane.go_to((1, 1))
        lane.turn("b", 3)
        self.assertIsNone(lane.meets("a", "b"))
        lane.turn("b", -1)
        self.assert_told(lane.meets("a", "b"), (3, 1))

    def test_nobody_there_is_so_called(self):
        lane = lane_with_one_gone(("a", 0, 3), ("b", 10, 1))
        for name in NOBODY:
            self.assert_refused(NoCraft, lane.meets, name, "a")
            self.assert_refused(NoCraft, lane.meets, "a", name)
            self.assert_refused(NoCraft, lane.meets, name, name)


class Closest(LaneChecked):
    def test_none_and_one(self):
        self.assertIsNone(Lane().closest())
        self.assertIsNone(lane_of(("a", 0, 3)).closest())
        self.assertIsNone(lane_with_one_gone(("a", 3, 3)).closest())

    def test_two(self):
        lane = lane_of(("a", 10, 1), ("b", -3, 2))
        self.assertEqual(lane.closest(), ((13, 1), "b", "a"))
        self.assertIs(type(lane.closest()), tuple)
        lane.go_to((1, 2))
        self.assertEqual(lane.closest(), ((25, 2), "b", "a"))
        self.assert_told(lane.closest()[0], (25, 2))

    def test_the_least_of_several(self):
        lane = lane_of(("a", 0, 0), ("b", 7, 0), ("c", 10, 0), ("d", 15, 0))
        self.assertEqual(lane.closest(), ((3, 1), "b", "c"))
        lane.join("e", 13, 0)
        self.assertEqual(lane.closest(), ((2, 1), "e", "d"))

    def test_of_several_alike_the_hindmost(self):
        lane = lane_of(("d", 0, 0), ("c", 5, 0), ("b", 8, 0), ("a", 11, 0), ("e", 14, 0))
        self.assertEqual(lane.closest(), ((3, 1), "c", "b"))
        lane.join("z", 20, 0)
        lane.join("y", 20, 0)
        self.assertEqual(lane.closest(), ((0, 1), "y", "z"))
        lane.join("x", 5, -1)
        self.assertEqual(lane.closest(), ((0, 1), "x", "c"))
        lane.join("f", 5, 7)
        self.assertEqual(lane.closest(), ((0, 1), "x", "c"))


class CountFrom(LaneChecked):
    def test_at_the_place_and_beyond(self):
        lane = lane_with_one_gone(("a", -2, 0), ("b", 5, 1), ("c", 5, -1), ("d", 9, 0))
        counts = {-10 ** 30: 4, -3: 4, -2: 4, -1: 3, 0: 3, 4: 3, 5: 3, 6: 1, 9: 1, 10: 0, 10 ** 30: 0}
        for place, count in counts.items():
            self.assertEqual(lane.count_from(place), count)
            self.assertIs(type(lane.count_from(place)), int)

    def test_places_between_whole_ones(self):
        lane = lane_of(("a", 0, 1), ("b", 0, -1))
        lane.go_to((1, 60))
        self.assertEqual([lane.count_from(place) for place in (-1, 0, 1)], [2, 1, 0])
        lane.go_to((1, 1))
        self.assertEqual([lane.count_from(place) for place in (-2, -1, 0, 1, 2)], [2, 2, 1, 1, 0])

    def test_without_craft(self):
        self.assertEqual(Lane().count_from(0), 0)
        self.assertEqual(lane_with_one_gone().count_from(-1000), 0)


if __name__ == "__main__":
    unittest.main()
