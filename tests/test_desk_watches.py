"""Points 13, 15 and 16: the watches of a desk, their leaders and their stories."""

import unittest
from fractions import Fraction

from checked import told
from desks import DeskChecked, desk_of
from overhaul.errors import Full, NoWatch

JOINS = (("join", "a", 0, 3), ("join", "b", 10, 1), ("join", "c", 20, 0))
# All three are at 15 at the moment 5.
MEETING = (("join", "a", 0, 3), ("join", "b", 5, 2), ("join", "c", 10, 1))
TINY = Fraction(1, 10 ** 35 + 3)


class Stories(DeskChecked):
    def test_a_watch_begins_at_the_clock(self):
        desk = desk_of(*JOINS, ("go", (13, 2)), ("watch", "w", ("a", "b", "c")), ("watch", "v", ("b", "a")))
        self.assertEqual(desk.story("w"), [((13, 2), "c")])
        self.assertEqual(desk.story("v"), [((13, 2), "a")])
        self.assertEqual([desk.leader("w"), desk.leader("v")], ["c", "a"])

    def test_a_watch_begins_at_the_moment_of_a_passing(self):
        desk = desk_of(*JOINS, ("go", (5, 1)), ("watch", "w", ("a", "b")), ("go", (6, 1)))
        self.assertEqual(desk.story("w"), [((5, 1), "a")])

    def test_within_one_going(self):
        groups = {"w1": ("a", "b", "c"), "w2": ("b", "c"), "w3": ("a", "b"), "w4": ("c",), "w5": ()}
        desk = desk_of(*JOINS, *[("watch", mark, groups[mark]) for mark in groups], ("go", (20, 1)))
        self.assertEqual(desk.story("w1"), [((0, 1), "c"), ((20, 3), "a")])
        self.assertEqual(desk.story("w2"), [((0, 1), "c"), ((10, 1), "b")])
        self.assertEqual(desk.story("w3"), [((0, 1), "b"), ((5, 1), "a")])
        self.assertEqual(desk.story("w4"), [((0, 1), "c")])
        self.assertEqual(desk.story("w5"), [((0, 1), None)])
        self.assertEqual([desk.leader(mark) for mark in groups], ["a", "b", "a", "c", None])

    def test_the_lead_changes_hands_several_times_in_one_going(self):
        desk = desk_of(("join", "a", 30, 0), ("join", "b", 20, 1), ("join", "c", 0, 2), ("join", "d", -30, 3),
                       ("watch", "w", ("a", "b", "c", "d")), ("go", (100, 1)))
        self.assertEqual(desk.story("w"), [((0, 1), "a"), ((10, 1), "b"), ((20, 1), "c"), ((30, 1), "d")])

    def test_passings_at_moments_to_which_no_clock_goes(self):
        desk = desk_of(("join", "a", 0, 1000), ("join", "b", 1, 239), ("watch", "w", ("a", "b")), ("go", (1, 1)))
        self.assertEqual(desk.story("w"), [((0, 1), "b"), ((1, 761), "a")])

    def test_several_passings_at_one_moment(self):
        desk = desk_of(*MEETING, ("watch", "w", ("a", "b", "c")), ("watch", "v", ("b", "c")))
        self.assertEqual(len(desk.do(("go", (6, 1)))), 3)
        self.assertEqual(desk.story("w"), [((0, 1), "c"), ((5, 1), "a")])
        self.assertEqual(desk.story("v"), [((0, 1), "c"), ((5, 1), "b")])

    def test_two_places_of_passing_at_one_moment(self):
        desk = desk_of(("join", "a", 0, 2), ("join", "b", 5, 1), ("join", "c", 100, 2), ("join", "d", 105, 1),
                       ("watch", "w", ("a", "b")), ("watch", "v", ("a", "b", "c", "d")), ("go", (9, 1)))
        self.assertEqual(desk.story("w"), [((0, 1), "b"), ((5, 1), "a")])
        self.assertEqual(desk.story("v"), [((0, 1), "d"), ((5, 1), "c")])

    def test_at_the_very_moment_to_which_it_goes(self):
        desk = desk_of(*MEETING, ("watch", "w", ("a", "b", "c")), ("go", (299, 60)))
        self.assertEqual(desk.story("w"), [((0, 1), "c")])
        desk.do(("go", (5, 1)))
        self.assertEqual(desk.story("w"), [((0, 1), "c"), ((5, 1), "a")])
        desk.do(("go", (9, 1)))
        self.assertEqual(desk.story("w"), [((0, 1), "c"), ((5, 1), "a")])

    def test_across_goings_as_in_one(self):
        watch = ("watch", "w", ("a", "b", "c"))
        whole = desk_of(*JOINS, watch, ("go", (20, 1)))
        parts = desk_of(*JOINS, watch, *[("go", moment) for moment in
                                         ((1, 60), (5, 1), (5, 1), (13, 2), (20, 3), (7, 1), (20, 1))])
        self.assertEqual(parts.story("w"), whole.story("w"))

    def test_other_craft_ahead_of_the_group(self):
        desk = desk_of(*JOINS, ("join", "x", 500, 9), ("watch", "w", ("a", "b")), ("go", (20, 1)))
        self.assertEqual(desk.story("w"), [((0, 1), "b"), ((5, 1), "a")])


class BehindEachDeed(DeskChecked):
    def test_craft_that_turn_at_one_place(self):
        desk = desk_of(*MEETING, ("watch", "w", ("a", "b", "c")), ("go", (5, 1)))
        for turn, order, story in (
            (("turn", "c", 9), ["b", "a", "c"], [((0, 1), "c")]),
            (("turn", "b", 10), ["a", "c", "b"], [((0, 1), "c"), ((5, 1), "b")]),
            (("turn", "b", 9), ["a", "b", "c"], [((0, 1), "c")]),
            (("about",), ["b", "c", "a"], [((0, 1), "c"), ((5, 1), "a")]),
        ):
            with self.subTest(turn):
                desk.do(turn)
                self.assertEqual(desk.lane().order(), order)
                self.assertEqual(desk.story("w"), story)
                self.assertEqual(desk.leader("w"), order[-1])

    def test_craft_that_leave_at_one_place(self):
        desk = desk_of(*MEETING, ("watch", "w", ("a", "b", "c")), ("go", (5, 1)))
        desk.do(("leave", "a"))
        self.assertEqual(desk.story("w"), [((0, 1), "c"), ((5, 1), "b")])
        desk.do(("leave", "b"))
        self.assertEqual(desk.story("w"), [((0, 1), "c")])
        desk.do(("leave", "c"))
        self.assertEqual(desk.story("w"), [((0, 1), "c"), ((5, 1), None)])
        self.assertIsNone(desk.leader("w"))

    def test_a_leader_that_leaves_and_one_that_is_left(self):
        desk = desk_of(*JOINS, ("watch", "w", ("a", "c")), ("go", (1, 2)), ("leave", "c"), ("go", (2, 1)),
                       ("leave", "a"), ("go", (3, 1)))
        self.assertEqual(desk.story("w"), [((0, 1), "c"), ((1, 2), "a"), ((2, 1), None)])

    def test_deeds_at_the_moment_of_the_beginning(self):
        desk = desk_of(*JOINS, ("watch", "w", ("a", "b", "c")), ("leave", "c"))
        self.assertEqual(desk.story("w"), [((0, 1), "b")])
        desk.do(("leave", "b"))
        desk.do(("leave", "a"))
        self.assertEqual(desk.story("w"), [((0, 1), None)])

    def test_a_craft_that_joins_is_of_no_elder_group(self):
        desk = desk_of(*JOINS, ("watch", "w", ("a", "b", "c")), ("go", (1, 1)), ("join", "d", 900, 5))
        self.assertEqual(desk.story("w"), [((0, 1), "c")])
        self.assertEqual(desk.lane().order()[-1], "d")

    def test_about_changes_who_comes_to_lead(self):
        desk = desk_of(("join", "a", 0, 1), ("join", "b", 10, 0), ("watch", "w", ("a", "b")), ("go", (15, 1)),
                       ("about",), ("go", (30, 1)))
        self.assertEqual(desk.story("w"), [((0, 1), "b"), ((10, 1), "a"), ((20, 1), "b")])

    def test_at_one_place_with_one_pace_the_name_says(self):
        desk = desk_of(("join", "b", 0, 1), ("join", "a", 0, 1), ("watch", "w", ("a", "b")), ("go", (1, 1)),
                       ("turn", "a", 2), ("go", (2, 1)))
        self.assertEqual(desk.story("w"), [((0, 1), "b"), ((1, 1), "a")])

    def test_each_watch_by_itself(self):
        desk = desk_of(*JOINS, ("watch", "w", ("a", "b")), ("go", (1, 1)), ("watch", "v", ("a", "b")), ("go", (9, 1)))
        self.assertEqual(desk.story("w"), [((0, 1), "b"), ((5, 1), "a")])
        self.assertEqual(desk.story("v"), [((1, 1), "b"), ((5, 1), "a")])


class Groups(DeskChecked):
    def test_a_watch_of_none(self):
        desk = desk_of(("watch", "w", ()), *JOINS, ("go", (9, 1)), ("about",))
        self.assertEqual(desk.story("w"), [((0, 1), None)])
        self.assertIsNone(desk.leader("w"))
        self.assertIsNone(desk.led_by("w", (3, 1)))

    def test_a_name_told_twice(self):
        desk = desk_of(*JOINS, ("watch", "w", ("b", "a", "b")), ("go", (1, 1)), ("leave", "b"))
        self.assertEqual(desk.story("w"), [((0, 1), "b"), ((1, 1), "a")])

    def test_a_mark_may_be_a_crafts_name(self):
        desk = desk_of(*JOINS, ("watch", "a", ("b",)), ("watch", "b", ("a",)))
        self.assertEqual([desk.leader("a"), desk.leader("b")], ["b", "a"])

    def test_an_unwatching_and_the_mark_given_anew(self):
        desk = desk_of(*JOINS, ("watch", "w", ("a", "b")), ("watch", "v", ("a", "c")), ("go", (6, 1)), ("unwatch", "w"))
        for ask in (desk.leader, desk.story):
            self.assert_refused(NoWatch, ask, "w")
        self.assert_refused(NoWatch, desk.led_by, "w", (6, 1))
        self.assertEqual(desk.story("v"), [((0, 1), "c")])
        desk.do(("go", (7, 1)))
        desk.do(("watch", "w", ("b", "c")))
        self.assertEqual(desk.story("w"), [((7, 1), "c")])
        desk.do(("go", (12, 1)))
        self.assertEqual(desk.story("w"), [((7, 1), "c"), ((10, 1), "b")])

    def test_the_mark_given_anew_at_one_moment(self):
        desk = desk_of(*JOINS, ("watch", "w", ("a",)), ("unwatch", "w"), ("watch", "w", ("c",)))
        self.assertEqual(desk.story("w"), [((0, 1), "c")])

    def test_six_watches_and_a_seventh(self):
        desk = desk_of(*JOINS, *[("watch", f"w{number}", ("a",)) for number in range(1, 7)])
        self.assert_deed_refused(Full, desk, ("watch", "w7", ("a",)))
        self.assert_deed_refused(Full, desk, ("watch", "w7", ()))
        desk.do(("unwatch", "w3"))
        desk.do(("watch", "w7", ("b",)))
        self.assertEqual([desk.leader(f"w{number}") for number in (1, 2, 4, 5, 6, 7)], ["a"] * 5 + ["b"])
        self.assert_deed_refused(Full, desk, ("watch", "w3", ("a",)))


class LedBy(DeskChecked):
    def setUp(self):
        self.desk = desk_of(("go", (1, 1)), *JOINS, ("watch", "w", ("a", "b", "c")), ("go", (13, 2)), ("leave", "c"),
                            ("go", (40, 1)))

    def test_at_each_tuple_and_beside_it(self):
        self.assertEqual(self.desk.story("w"), [((1, 1), "c"), ((13, 2), "a")])
        for moment, leader in (
            ((1, 1), "c"), ((2, 1), "c"), (told(Fraction(13, 2) - TINY), "c"), ((13, 2), "a"),
            (told(Fraction(13, 2) + TINY), "a"), ((39, 1), "a"), ((40, 1), "a"),
        ):
            self.assertEqual(self.desk.led_by("w", moment), leader)

    def test_the_leader_is_the_foremost_that_is_there(self):
        lane = self.desk.lane()
        for number in range(6, 241):
            moment = told(Fraction(number, 6))
            self.assertEqual(self.desk.led_by("w", moment), lane.order_at(moment)[-1])


if __name__ == "__main__":
    unittest.main()
