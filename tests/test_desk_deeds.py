"""Points 15 and 14: what each kind of deed does at a desk, the book, the journal, tallies and goings by."""

import unittest

from desks import DeskChecked, all_desk_told, desk_of
from lanes import all_told
from overhaul.desk import Desk
from overhaul.lane import Lane

JOINS = (("join", "a", 0, 3), ("join", "b", 10, 1), ("join", "c", 20, 0))


class EachKind(DeskChecked):
    def assert_desk(self, desk, clock, order, bells, book, journal):
        lane = desk.lane()
        self.assert_told(lane.clock(), clock)
        self.assert_order(lane, order)
        self.assertEqual(lane.bells(), bells)
        self.assertEqual(desk.book(), book)
        self.assertEqual(desk.journal(), journal)

    def test_at_first(self):
        self.assert_desk(Desk(), (0, 1), [], [], [], [])
        self.assertIs(type(Desk().lane()), Lane)
        self.assertEqual([type(Desk().book()), type(Desk().journal())], [list, list])

    def test_join(self):
        desk = Desk()
        self.assertEqual(desk.do(("join", "b", 10, 1)), [])
        self.assert_desk(desk, (0, 1), ["b"], [], [], [("join", "b", 10, 1)])
        self.assertEqual(desk.do(("join", "a", 0, 3)), [])
        self.assert_desk(desk, (0, 1), ["a", "b"], [((5, 1), "a", "b")], [],
                         [("join", "b", 10, 1), ("join", "a", 0, 3)])
        self.assertEqual(desk.lane().history("a"), [((0, 1), (0, 1), 3)])

    def test_leave(self):
        desk = desk_of(*JOINS)
        self.assertEqual(desk.do(("leave", "b")), [])
        self.assert_desk(desk, (0, 1), ["a", "c"], [((20, 3), "a", "c")], [], [*JOINS, ("leave", "b")])
        self.assertEqual(desk.lane().left("b"), (0, 1))

    def test_turn(self):
        desk = desk_of(*JOINS)
        self.assertEqual(desk.do(("turn", "b", -2)), [])
        self.assert_desk(desk, (0, 1), ["a", "b", "c"], [((2, 1), "a", "b")], [], [*JOINS, ("turn", "b", -2)])

    def test_about(self):
        desk = desk_of(*JOINS)
        self.assertEqual(desk.do(("about",)), [])
        self.assert_desk(desk, (0, 1), ["a", "b", "c"], [], [], [*JOINS, ("about",)])
        self.assertEqual([desk.lane().history(name)[-1][2] for name in "abc"], [-3, -1, 0])

    def test_go(self):
        desk = desk_of(*JOINS)
        passings = [((5, 1), "a", "b"), ((20, 3), "a", "c")]
        self.assertEqual(desk.do(("go", (7, 1))), passings)
        self.assert_desk(desk, (7, 1), ["b", "c", "a"], [((10, 1), "b", "c")], passings, [*JOINS, ("go", (7, 1))])
        self.assertEqual(desk.do(("go", (7, 1))), [])
        self.assertEqual(desk.do(("go", (10, 1))), [((10, 1), "b", "c")])
        self.assert_desk(desk, (10, 1), ["c", "b", "a"], [], passings + [((10, 1), "b", "c")],
                         [*JOINS, ("go", (7, 1)), ("go", (7, 1)), ("go", (10, 1))])

    def test_watch_and_unwatch(self):
        desk = desk_of(*JOINS)
        lane = all_told(desk.lane())
        self.assertEqual(desk.do(("watch", "w", ("a", "b"))), [])
        self.assertEqual(desk.leader("w"), "b")
        self.assertEqual(desk.do(("unwatch", "w")), [])
        self.assertEqual(all_told(desk.lane()), lane)
        self.assertEqual(desk.book(), [])
        self.assertEqual(desk.journal(), [*JOINS, ("watch", "w", ("a", "b")), ("unwatch", "w")])

    def test_the_lane_is_as_one_that_does_the_same(self):
        desk, lane = desk_of(*JOINS), Lane()
        for name, place, pace in (("a", 0, 3), ("b", 10, 1), ("c", 20, 0)):
            lane.join(name, place, pace)
        desk.do(("go", (13, 2)))
        passings = lane.go_to((13, 2))
        self.assertEqual(desk.book(), passings)
        desk.do(("leave", "b"))
        lane.leave("b")
        desk.do(("turn", "c", 7))
        lane.turn("c", 7)
        desk.do(("about",))
        lane.about()
        self.assertEqual(all_told(desk.lane()), all_told(lane))


class BookAndJournal(DeskChecked):
    def test_the_book_keeps_the_order_of_telling(self):
        desk = desk_of(*JOINS)
        told = [passing for moment in ((5, 1), (6, 1), (20, 3), (30, 1)) for passing in desk.do(("go", moment))]
        self.assertEqual(desk.book(), told)
        self.assertEqual(told, [((5, 1), "a", "b"), ((20, 3), "a", "c"), ((10, 1), "b", "c")])

    def test_one_pair_may_stand_in_the_book_again(self):
        desk = desk_of(("join", "a", 0, 1), ("join", "b", 10, 0), ("go", (15, 1)), ("about",), ("go", (30, 1)))
        self.assertEqual(desk.book(), [((10, 1), "a", "b"), ((20, 1), "b", "a")])

    def test_the_journal_has_each_deed_as_it_was_handed_in(self):
        deeds = [*JOINS, ("watch", "w", ("c", "a", "c")), ("watch", "v", ()), ("go", (0, 1)), ("turn", "a", 3),
                 ("about",), ("about",), ("unwatch", "w"), ("watch", "w", ("b",)), ("leave", "b"), ("go", (1, 2))]
        desk = desk_of(*deeds)
        self.assertEqual(desk.journal(), deeds)
        self.assertTrue(all(type(deed) is tuple for deed in desk.journal()))

    def test_told_lists_are_the_askers_own(self):
        desk = desk_of(*JOINS, ("watch", "w", ("a", "b", "c")), ("go", (7, 1)))
        ahead = all_desk_told(desk)
        for rows in (desk.book(), desk.journal(), desk.story("w"), desk.goings("a", 10), desk.do(("go", (7, 1)))):
            rows.append("more")
            rows.reverse()
            rows.clear()
        passings = desk.do(("go", (10, 1)))
        passings.clear()
        self.assertEqual(desk.book()[-1], ((10, 1), "b", "c"))
        self.assertEqual(desk.story("w"), ahead["stories"]["w"])
        self.assertEqual(desk.journal()[:5], ahead["journal"])

    def test_lists_told_ahead_do_not_go_on(self):
        desk = desk_of(*JOINS, ("watch", "w", ("a", "b", "c")))
        book, journal, story = desk.book(), desk.journal(), desk.story("w")
        desk.do(("go", (7, 1)))
        self.assertEqual((book, len(journal), story), ([], 4, [((0, 1), "c")]))

    def test_a_told_lane_that_the_asker_changes(self):
        desk = desk_of(*JOINS, ("watch", "w", ("a", "b", "c")), ("go", (6, 1)))
        ahead = all_desk_told(desk)
        lane = desk.lane()
        lane.turn("a", -50)
        lane.leave("c")
        lane.join("d", 0, 0)
        lane.go_to((50, 1))
        self.assertEqual(all_desk_told(desk), ahead)
        lane = desk.lane()
        kept = all_told(lane)
        desk.do(("go", (50, 1)))
        desk.do(("leave", "a"))
        self.assertEqual(all_told(lane), kept)


class Tallies(DeskChecked):
    def test_how_often_fast_and_slow(self):
        desk = desk_of(*JOINS)
        self.assertEqual([desk.tally(name) for name in "abc"], [(0, 0)] * 3)
        desk.do(("go", (7, 1)))
        self.assertEqual([desk.tally(name) for name in "abc"], [(2, 0), (0, 1), (0, 1)])
        desk.do(("go", (12, 1)))
        self.assertEqual([desk.tally(name) for name in "abc"], [(2, 0), (1, 1), (0, 2)])
        desk.do(("about",))
        desk.do(("go", (20, 1)))
        self.assertEqual([desk.tally(name) for name in "abc"], [(2, 2), (2, 2), (2, 2)])
        self.assertIs(type(desk.tally("a")), tuple)

    def test_of_one_that_left(self):
        desk = desk_of(*JOINS, ("go", (7, 1)), ("leave", "a"), ("go", (50, 1)))
        self.assertEqual([desk.tally(name) for name in "abc"], [(2, 0), (1, 1), (0, 2)])


class Goings(DeskChecked):
    def test_up_to_the_clock(self):
        desk = desk_of(("join", "a", 0, 2))
        self.assertEqual(desk.goings("a", 10), [])
        desk.do(("go", (9, 2)))
        self.assertEqual(desk.goings("a", 10), [])
        desk.do(("go", (5, 1)))
        self.assertEqual(desk.goings("a", 10), [((5, 1), "up")])
        self.assertEqual(desk.goings("a", 11), [])
        desk.do(("turn", "a", -2))
        self.assertEqual(desk.goings("a", 10), [])
        desk.do(("go", (20, 1)))
        self.assertEqual(desk.goings("a", 4), [((2, 1), "up"), ((8, 1), "down")])
        self.assertEqual(desk.goings("a", -20), [((20, 1), "down")])
        self.assertEqual(desk.goings("a", 0), [((10, 1), "down")])

    def test_up_to_the_leaving(self):
        desk = desk_of(("join", "a", 0, 2), ("go", (5, 1)), ("leave", "a"), ("go", (50, 1)))
        self.assertEqual(desk.goings("a", 10), [((5, 1), "up")])
        self.assertEqual(desk.goings("a", 11), [])
        self.assertEqual(desk.goings("a", 9), [((9, 2), "up")])

    def test_a_leg_that_begins_at_the_leaving(self):
        desk = desk_of(("join", "a", 0, 2), ("go", (5, 1)), ("turn", "a", -1), ("leave", "a"), ("go", (50, 1)))
        self.assertEqual(desk.goings("a", 10), [])
        self.assertEqual(desk.goings("a", 9), [((9, 2), "up")])
        desk = desk_of(("join", "a", 0, 2), ("go", (5, 1)), ("turn", "a", 1), ("leave", "a"), ("go", (50, 1)))
        self.assertEqual(desk.goings("a", 10), [((5, 1), "up")])

    def test_one_that_leaves_as_it_joins(self):
        desk = desk_of(("go", (3, 1)), ("join", "a", 0, 2), ("leave", "a"), ("go", (9, 1)))
        self.assertEqual([desk.goings("a", post) for post in (-1, 0, 1)], [[], [], []])

    def test_from_the_joining_on(self):
        desk = desk_of(("go", (7, 2)), ("join", "a", 4, -2), ("turn", "a", 2), ("go", (9, 1)))
        self.assertEqual(desk.goings("a", 4), [])
        self.assertEqual(desk.goings("a", 5), [((4, 1), "up")])


if __name__ == "__main__":
    unittest.main()
