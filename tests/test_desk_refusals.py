"""Points 3, 17 and 21: what a desk refuses, in which order, and that nothing changes behind it."""

import unittest
from fractions import Fraction

from checked import told
from desks import DeskChecked, all_desk_told, desk_of
from lanes import refusal_of
from overhaul.desk import Desk
from overhaul.errors import BadMoment, BadName, Full, NoCraft, NotThere, NoWatch, Past, Taken, TooFar

BAD_NAMES = ("", "A", "aB", "ninesigns", "a b", " a", "a ", "a\n", "\n", "a-b", "-1", "~", "a_b", "1/2", "{", "ab" * 40)
TINY = Fraction(1, 10 ** 35 + 3)


def busy_desk():
    """A desk with six craft there, one that left, two watches and a book that is not empty."""
    return desk_of(("join", "a", 0, 3), ("join", "b", 10, 1), ("join", "c", 20, 0), ("join", "d", 5, 5),
                   ("watch", "w", ("a", "b")), ("go", (13, 2)), ("leave", "d"), ("turn", "b", 2),
                   ("join", "e", -4, 9), ("join", "f", 19, 2), ("about",), ("watch", "v", ("f", "a", "f")),
                   ("go", (8, 1)), ("join", "pike", 0, 0))


def full_desk():
    """The busy desk with twelve craft and six watches."""
    desk = busy_desk()
    for number in range(12 - len(desk.lane().order())):
        desk.do(("join", f"n{number}", number, number))
    for number in range(1, 5):
        desk.do(("watch", f"w{number}", (f"n{number}", "a")))
    return desk


class DeedsOfTheLane(DeskChecked):
    def test_joining(self):
        desk = full_desk()
        self.assertEqual(len(desk.lane().order()), 12)
        for name in BAD_NAMES:
            self.assert_deed_refused(BadName, desk, ("join", name, 0, 0))
            self.assert_deed_refused(BadName, desk, ("join", name, 1000001, 1001))
        for place, pace in ((1000001, 0), (-1000001, 0), (0, 1001), (0, -1001), (10 ** 30, -10 ** 30)):
            self.assert_deed_refused(TooFar, desk, ("join", "new", place, pace))
            self.assert_deed_refused(TooFar, desk, ("join", "a", place, pace))
            self.assert_deed_refused(TooFar, desk, ("join", "d", place, pace))
        self.assert_deed_refused(Taken, desk, ("join", "a", 0, 0))
        self.assert_deed_refused(Taken, desk, ("join", "d", 0, 0))
        self.assert_deed_refused(Full, desk, ("join", "new", 0, 0))
        desk.do(("leave", "a"))
        self.assert_deed_refused(Taken, desk, ("join", "a", 0, 0))
        self.assertEqual(desk.do(("join", "new", 1000000, -1000)), [])

    def test_leaving(self):
        desk = busy_desk()
        for name in ("d", "nobody", "w", *BAD_NAMES):
            self.assert_deed_refused(NoCraft, desk, ("leave", name))

    def test_turning(self):
        desk = busy_desk()
        for name in ("d", "nobody", "w", *BAD_NAMES):
            self.assert_deed_refused(NoCraft, desk, ("turn", name, 0))
            self.assert_deed_refused(NoCraft, desk, ("turn", name, 1001))
        for pace in (1001, -1001, 10 ** 30):
            self.assert_deed_refused(TooFar, desk, ("turn", "a", pace))

    def test_going(self):
        desk = busy_desk()
        for moment in (
            (2, 2), (0, 2), (1, 0), (0, 0), (1, -1), (-1, 1), (1, 61), (1000001, 1), (60000001, 60), (16, 2),
        ):
            self.assert_deed_refused(BadMoment, desk, ("go", moment))
        for moment in ((0, 1), (1, 1), (15, 2), (479, 60)):
            self.assert_deed_refused(Past, desk, ("go", moment))
        self.assertEqual(desk.do(("go", (8, 1))), [])


class Watching(DeskChecked):
    def test_a_bad_mark_goes_first(self):
        desk, empty = full_desk(), Desk()
        for mark in BAD_NAMES:
            for names in ((), ("a",), ("d",), ("nobody", "A")):
                self.assert_deed_refused(BadName, desk, ("watch", mark, names))
            self.assert_deed_refused(BadName, empty, ("watch", mark, ("nobody",)))
            self.assert_deed_refused(BadName, empty, ("watch", mark, ()))

    def test_a_taken_mark_goes_ahead_of_the_names(self):
        for desk in (busy_desk(), full_desk()):
            for mark in ("w", "v"):
                for names in ((), ("a", "b"), ("nobody",), ("d",), ("A", "")):
                    self.assert_deed_refused(Taken, desk, ("watch", mark, names))

    def test_a_name_of_nobody_there_goes_ahead_of_full(self):
        for desk in (busy_desk(), full_desk()):
            for name in ("nobody", "d", "w", *BAD_NAMES):
                for names in ((name,), ("a", name), (name, "b"), ("a", name, "b"), (name, name)):
                    self.assert_deed_refused(NoCraft, desk, ("watch", "w7", names))

    def test_full(self):
        desk = full_desk()
        for names in ((), ("a",), ("a", "b", "a")):
            self.assert_deed_refused(Full, desk, ("watch", "w7", names))

    def test_the_names_of_a_group_are_asked_for_at_the_clock(self):
        desk = Desk()
        self.assert_deed_refused(NoCraft, desk, ("watch", "w", ("a",)))
        desk.do(("join", "a", 0, 0))
        desk.do(("watch", "w", ("a",)))
        desk.do(("leave", "a"))
        self.assert_deed_refused(NoCraft, desk, ("watch", "v", ("a",)))

    def test_marks_of_one_and_of_eight_signs(self):
        desk = desk_of(("watch", "0", ()), ("watch", "z9z9z9z9", ()))
        self.assertEqual([desk.story("0"), desk.story("z9z9z9z9")], [[((0, 1), None)]] * 2)


class OfAWatch(DeskChecked):
    def test_marks_never_given_and_ended_ones(self):
        desk = busy_desk()
        desk.do(("unwatch", "w"))
        for mark in ("w", "w7", "a", "nobody", *BAD_NAMES):
            self.assert_deed_refused(NoWatch, desk, ("unwatch", mark))
            self.assert_refused(NoWatch, desk.leader, mark)
            self.assert_refused(NoWatch, desk.story, mark)
            for moment in ((8, 1), (0, 1), (-1, 1), (9, 1)):
                self.assert_refused(NoWatch, desk.led_by, mark, moment)
        self.assertEqual(desk.leader("v"), "f")

    def test_led_by_ahead_of_the_beginning_and_later_than_the_clock(self):
        desk = busy_desk()
        ahead = all_desk_told(desk)
        for mark, moment in (
            ("v", told(Fraction(13, 2) - TINY)), ("v", (6, 1)), ("v", (0, 1)), ("v", (-3, 1)), ("w", (-1, 60)),
            ("v", told(8 + TINY)), ("w", told(8 + TINY)), ("w", (10 ** 20, 1)),
        ):
            self.assert_refused(NotThere, desk.led_by, mark, moment)
        self.assertEqual([desk.led_by("v", moment) for moment in ((13, 2), (8, 1))], ["a", "f"])
        self.assertEqual([desk.led_by("w", moment) for moment in ((0, 1), (8, 1))], ["b", "a"])
        self.assertEqual(all_desk_told(desk), ahead)


class OfACraft(DeskChecked):
    def test_a_name_that_never_joined(self):
        desk = busy_desk()
        ahead = all_desk_told(desk)
        for name in ("nobody", "w", "v", *BAD_NAMES):
            self.assert_refused(NoCraft, desk.tally, name)
            self.assert_refused(NoCraft, desk.goings, name, 0)
        self.assert_refused(NoCraft, Desk().tally, "a")
        self.assertEqual(all_desk_told(desk), ahead)

    def test_one_whose_joining_was_refused(self):
        desk = full_desk()
        refusal_of(desk.do, ("join", "new", 0, 0))
        self.assert_refused(NoCraft, desk.tally, "new")
        self.assert_refused(NoCraft, desk.goings, "new", 0)

    def test_one_that_left(self):
        desk = busy_desk()
        self.assertEqual(desk.tally("d"), (2, 0))
        self.assertEqual(desk.goings("d", 10), [((1, 1), "up")])


class GoesOn(DeskChecked):
    def test_behind_refusals_a_desk_goes_on_as_one_that_was_asked_for_none(self):
        tried, plain = busy_desk(), busy_desk()
        for deed in (("join", "a", 0, 0), ("leave", "d"), ("turn", "a", 1001), ("go", (1, 1)), ("go", (9, 3)),
                     ("watch", "w", ()), ("watch", "u", ("d",)), ("unwatch", "u")):
            self.assertIsNotNone(refusal_of(tried.do, deed))
        for deed in (("go", (9, 1)), ("about",), ("watch", "u", ("a", "f")), ("go", (30, 1)), ("unwatch", "w"),
                     ("leave", "a")):
            self.assertEqual(tried.do(deed), plain.do(deed))
            self.assertEqual(all_desk_told(tried), all_desk_told(plain))


if __name__ == "__main__":
    unittest.main()
