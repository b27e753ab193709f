"""Points 1 and 17: rows of deeds, which are done wholly or not at all."""

import unittest

from desks import DeskChecked, all_desk_told, desk_of
from overhaul.desk import Desk
from overhaul.errors import BadMoment, BadName, Full, NoCraft, NoWatch, Past, Taken, TooFar

AHEAD = (("join", "a", 0, 3), ("join", "b", 10, 1), ("watch", "w", ("a", "b")), ("watch", "v", ("b",)), ("go", (1, 2)))
# A row that touches everything a desk has: craft, clock, book, journal, watches and stories.
ROW = (
    ("join", "c", 20, 0), ("watch", "u", ("b", "c")), ("go", (6, 1)), ("turn", "b", -2), ("unwatch", "v"), ("about",),
    ("watch", "v", ("a", "c")), ("go", (41, 4)), ("leave", "b"), ("go", (30, 1)),
)
BAD = (
    (BadName, ("join", "A", 0, 0)), (TooFar, ("join", "x", 0, 1001)), (Taken, ("join", "a", 0, 0)),
    (NoCraft, ("leave", "x")), (NoCraft, ("turn", "x", 0)), (TooFar, ("turn", "a", 1001)),
    (BadMoment, ("go", (2, 2))), (Past, ("go", (0, 1))), (BadName, ("watch", "", ())), (Taken, ("watch", "w", ())),
    (NoCraft, ("watch", "new", ("x",))), (NoWatch, ("unwatch", "new")),
)


class Wholly(DeskChecked):
    def test_an_empty_row(self):
        for desk in (Desk(), desk_of(*AHEAD)):
            ahead = all_desk_told(desk)
            self.assertEqual(desk.do_all([]), [])
            self.assertEqual(all_desk_told(desk), ahead)

    def test_a_row_of_good_deeds_tells_all_passings_in_one_list(self):
        desk, one_by_one = desk_of(*AHEAD), desk_of(*AHEAD)
        passings = desk.do_all(list(ROW))
        self.assertEqual(passings, [passing for deed in ROW for passing in one_by_one.do(deed)])
        self.assertEqual(passings[:1], [((5, 1), "a", "b")])
        self.assertEqual(len({passing[0] for passing in passings}), len(passings))
        self.assertGreater(len(passings), 2)
        self.assertIs(type(passings), list)
        self.assertEqual(all_desk_told(desk), all_desk_told(one_by_one))

    def test_a_row_without_goings_tells_none(self):
        desk = Desk()
        self.assertEqual(desk.do_all([("join", "a", 0, 1), ("about",), ("leave", "a")]), [])
        self.assertEqual(len(desk.journal()), 3)

    def test_rows_behind_one_another(self):
        desk, whole = Desk(), Desk()
        told = desk.do_all(list(AHEAD)) + desk.do_all(list(ROW[:3])) + desk.do_all(list(ROW[3:]))
        self.assertEqual(told, whole.do_all([*AHEAD, *ROW]))
        self.assertEqual(all_desk_told(desk), all_desk_told(whole))
        self.assertEqual(desk.journal(), [*AHEAD, *ROW])

    def test_a_deed_that_only_the_row_makes_good(self):
        desk = Desk()
        desk.do_all([("join", "a", 0, 1), ("watch", "w", ("a",)), ("unwatch", "w"), ("watch", "w", ("a",))])
        self.assertEqual(desk.story("w"), [((0, 1), "a")])

    def test_told_passings_are_the_askers_own(self):
        desk = desk_of(*AHEAD)
        desk.do_all(list(ROW)).clear()
        self.assertGreater(len(desk.book()), 2)


class NotAtAll(DeskChecked):
    def test_a_bad_deed_at_the_beginning_in_the_middle_and_at_the_end(self):
        for refusal, bad in BAD:
            for at in (0, 3, 5, 8, len(ROW)):
                with self.subTest(bad=bad, at=at):
                    desk = desk_of(*AHEAD)
                    ahead = all_desk_told(desk)
                    self.assert_refused(refusal, desk.do_all, [*ROW[:at], bad, *ROW[at:]])
                    self.assertEqual(all_desk_told(desk), ahead)

    def test_the_first_refusal_is_raised(self):
        desk = desk_of(*AHEAD)
        self.assert_refused(NoCraft, desk.do_all, [("about",), ("leave", "x"), ("go", (0, 1)), ("unwatch", "new")])
        self.assert_refused(Past, desk.do_all, [("about",), ("go", (0, 1)), ("leave", "x"), ("unwatch", "new")])

    def test_a_deed_that_the_row_itself_makes_bad(self):
        for refusal, row in (
            (Taken, [("join", "c", 0, 0), ("join", "c", 0, 0)]), (Taken, [("leave", "a"), ("join", "a", 0, 0)]),
            (NoCraft, [("leave", "a"), ("turn", "a", 0)]), (Past, [("go", (9, 1)), ("go", (8, 1))]),
            (NoWatch, [("unwatch", "w"), ("unwatch", "w")]), (NoCraft, [("leave", "b"), ("watch", "new", ("b",))]),
            (Full, [("watch", f"new{number}", ("a",)) for number in range(5)]),
            (Full, [("join", f"new{number}", number, 0) for number in range(11)]),
        ):
            with self.subTest(row):
                desk = desk_of(*AHEAD)
                ahead = all_desk_told(desk)
                self.assert_refused(refusal, desk.do_all, row)
                self.assertEqual(all_desk_told(desk), ahead)

    def test_an_empty_desk_stays_empty(self):
        desk = Desk()
        self.assert_refused(NoWatch, desk.do_all, [*AHEAD, *ROW, ("unwatch", "none")])
        self.assertEqual(all_desk_told(desk), all_desk_told(Desk()))

    def test_behind_a_refused_row_the_desk_goes_on(self):
        desk, plain = desk_of(*AHEAD), desk_of(*AHEAD)
        self.assert_refused(NoWatch, desk.do_all, [*ROW, ("unwatch", "none")])
        for deed in ROW:
            self.assertEqual(desk.do(deed), plain.do(deed))
            self.assertEqual(all_desk_told(desk), all_desk_told(plain))


class TheListHandedIn(DeskChecked):
    def test_it_is_as_it_was(self):
        deeds = list(ROW)
        desk = desk_of(*AHEAD)
        desk.do_all(deeds)
        self.assertEqual(deeds, list(ROW))
        deeds = [*ROW, ("unwatch", "none")]
        self.assert_refused(NoWatch, desk_of(*AHEAD).do_all, deeds)
        self.assertEqual(deeds, [*ROW, ("unwatch", "none")])

    def test_the_asker_empties_it_behind_the_call(self):
        deeds = list(ROW)
        desk = desk_of(*AHEAD)
        desk.do_all(deeds)
        ahead = all_desk_told(desk)
        deeds.clear()
        deeds.append(("leave", "a"))
        self.assertEqual(all_desk_told(desk), ahead)
        self.assertEqual(desk.journal(), [*AHEAD, *ROW])

    def test_on_an_empty_desk_too(self):
        deeds = [("join", "a", 0, 1)]
        desk = Desk()
        desk.do_all(deeds)
        deeds.append(("leave", "a"))
        self.assertEqual(desk.journal(), [("join", "a", 0, 1)])


if __name__ == "__main__":
    unittest.main()
