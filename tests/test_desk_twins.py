"""Points 1, 16 and 18: twins of desks, and desks beside a plain model of them."""

import random
import unittest
from fractions import Fraction

from checked import told
from desks import DeskChecked, PlainDesk, all_desk_told, desk_of
from overhaul.desk import Desk
from overhaul.errors import NoCraft, NotThere, NoWatch, WaterError

DEEDS = (
    ("join", "f", 0, 1), ("leave", "a"), ("turn", "b", 9), ("about",), ("go", (9, 1)), ("watch", "u", ("a", "c")),
    ("unwatch", "w"),
)


def busy_desk():
    return desk_of(("join", "a", 0, 5), ("join", "b", 10, 2), ("join", "c", 12, 2), ("join", "d", 11, 0),
                   ("watch", "w", ("a", "b")), ("go", (5, 2)), ("turn", "c", 3), ("leave", "d"), ("join", "e", 4, -1),
                   ("watch", "v", ("a", "e", "c")), ("go", (7, 2)))


class Twins(DeskChecked):
    def test_a_twin_is_alike(self):
        for desk in (Desk(), busy_desk()):
            twin = desk.twin()
            self.assertIs(type(twin), Desk)
            self.assertIsNot(twin, desk)
            self.assertEqual(all_desk_told(twin), all_desk_told(desk))

    def test_a_twin_goes_on_alike(self):
        desk = busy_desk()
        twin = desk.twin()
        for deed in (("go", (9, 1)), ("about",), ("watch", "u", ("a", "c")), ("go", (30, 1)), ("leave", "a"),
                     ("unwatch", "w")):
            self.assertEqual(desk.do(deed), twin.do(deed))
            self.assertEqual(all_desk_told(twin), all_desk_told(desk))

    def test_neither_changes_the_other(self):
        for deed in DEEDS:
            for changed, kept in ((0, 1), (1, 0)):
                for action in ("do", "do_all"):
                    with self.subTest(deed=deed, changed=changed, action=action):
                        desk = busy_desk()
                        both = (desk, desk.twin())
                        ahead = all_desk_told(desk)
                        getattr(both[changed], action)(deed if action == "do" else [deed])
                        self.assertEqual(all_desk_told(both[kept]), ahead)
                        self.assertNotEqual(all_desk_told(both[changed]), ahead)

    def test_twins_behind_a_row(self):
        desk = Desk()
        desk.do_all([("join", "a", 0, 5), ("join", "b", 10, 2), ("watch", "w", ("a", "b"))])
        twin = desk.twin()
        twin.do_all([("go", (5, 1)), ("leave", "b")])
        self.assertEqual(desk.story("w"), [((0, 1), "b")])
        self.assertEqual(desk.lane().clock(), (0, 1))
        desk.do(("go", (5, 1)))
        self.assertEqual(desk.story("w"), twin.story("w"))

    def test_a_twin_of_a_twin(self):
        desk = busy_desk()
        twin = desk.twin().twin()
        self.assertEqual(all_desk_told(twin), all_desk_told(desk))

    def test_two_desks_apart(self):
        one, other = Desk(), Desk()
        one.do(("join", "a", 0, 1))
        one.do(("watch", "w", ("a",)))
        one.do(("go", (1, 1)))
        self.assertEqual(all_desk_told(other), all_desk_told(Desk()))

    def test_told_lists_of_either_are_the_askers_own(self):
        desk = busy_desk()
        twin = desk.twin()
        ahead = all_desk_told(desk)
        for one in (desk, twin):
            for rows in (one.book(), one.journal(), one.story("w"), one.story("v"), one.goings("a", 10)):
                self.assertGreater(len(rows), 0)
                rows.clear()
            one.lane().go_to((50, 1))
        self.assertEqual(all_desk_told(desk), ahead)
        self.assertEqual(all_desk_told(twin), ahead)


class BesideAPlainModel(DeskChecked):
    def deed_by_chance(self, chance, plain):
        here = plain.lane.here()
        name = chance.choice(here * 3 + ["a", "b", "c", "d", "e", "f", "g", "h", "aa", "0", "A"])
        mark = chance.choice(("w", "v", "u", "w1", "w2", "w3", "w4", "W"))
        names = tuple(chance.choices(here + ["a"], k=chance.choice((0, 1, 2, 3, 4, 5))))
        moment = plain.lane.clock + Fraction(chance.choice((-1, 0, 2, 3, 5, 6, 8, 12)), chance.choice((1, 2, 3, 4, 5)))
        # Craft that turn towards the middle pass one another again and again.
        beyond = name in here and plain.lane.place(name, plain.lane.clock) > 0
        pace = chance.randint(-3, 1) if beyond else chance.randint(-1, 3)
        deeds = {
            ("join", name, chance.randint(-4, 4), pace): 3, ("join", name, 0, chance.choice((0, 2, 1001))): 1,
            ("leave", name): 1, ("turn", name, pace): 12, ("about",): 1, ("go", told(moment)): 10,
            ("watch", mark, names): 3, ("unwatch", mark): 1,
        }
        return chance.choices(list(deeds), list(deeds.values()))[0]

    def check(self, desk, plain, moments):
        self.assertEqual(desk.book(), plain.book)
        self.assertEqual(desk.journal(), plain.journal)
        self.assertEqual(desk.lane().order(), plain.lane.order(plain.lane.clock))
        for name in plain.lane.joined:
            self.assertEqual(desk.tally(name), plain.tally(name))
        for mark, (begun, names) in plain.watches.items():
            self.assertEqual(desk.story(mark), plain.story(mark))
            self.assertEqual(desk.leader(mark), plain.led_by(mark, plain.lane.clock))
            for moment in moments:
                if begun <= moment <= plain.lane.clock:
                    self.assertEqual(desk.led_by(mark, told(moment)), plain.led_by(mark, moment))
                else:
                    self.assert_refused(NotThere, desk.led_by, mark, told(moment))
        self.assert_refused(NoWatch, desk.story, "x")
        self.assert_refused(NoCraft, desk.tally, "x")

    def do_one(self, chance, desk, plain, deed):
        """The deed at the desk, by itself or as a row, and in its model."""
        wanted = plain.do(deed)
        try:
            got = desk.do(deed) if chance.random() < 0.5 else desk.do_all([deed])
        except WaterError as refusal:
            got = type(refusal).__name__
        self.assertEqual(got, wanted)

    def test_deeds_by_chance(self):
        changes = 0
        for run in range(40):
            chance = random.Random(run)
            desk, plain = Desk(), PlainDesk()
            for name in "abcde":
                self.do_one(chance, desk, plain, ("join", name, chance.randint(-4, 4), chance.randint(-3, 3)))
            self.do_one(chance, desk, plain, ("watch", "w", ("a", "b", "c", "d", "e")))
            for number in range(40):
                self.do_one(chance, desk, plain, self.deed_by_chance(chance, plain))
                clock = plain.lane.clock
                self.check(desk, plain, (clock, clock * Fraction(chance.randint(0, 11), 10), clock + Fraction(1, 7)))
            changes += sum(len(desk.story(mark)) - 1 for mark in plain.watches)
        # Chance has led to stories worth a look.
        self.assertGreater(changes, 50)


if __name__ == "__main__":
    unittest.main()
