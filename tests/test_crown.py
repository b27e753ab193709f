"""Points 1, 13 and 18: who leads a group, the story of its leaders, and twins of crowns."""

import random
import unittest
from fractions import Fraction

from checked import Checked, told
from lanes import refusal_of
from overhaul.crown import Crown
from overhaul.errors import NotThere

GREAT = 10 ** 35 + 3
TINY = Fraction(1, GREAT)


def near(moment, step):
    """A moment that differs by next to nothing."""
    return told(Fraction(*moment) + step)


def crown_of(names, *notes):
    """A crown that begins with the first of these (moment, order) and notes the others."""
    crown = Crown(names, *notes[0])
    for moment, order in notes[1:]:
        crown.note(moment, order)
    return crown


class Beginning(Checked):
    def test_the_story_has_one_tuple_at_first(self):
        crown = Crown(("a", "b"), (3, 2), ["a", "b", "c"])
        self.assertEqual(crown.story(), [((3, 2), "b")])
        self.assertEqual(crown.leader(), "b")
        self.assertIs(type(crown.story()), list)
        self.assertIs(type(crown.story()[0]), tuple)

    def test_the_last_of_the_group_in_the_order_leads(self):
        for order, leader in (
            (["a", "b", "c", "d"], "c"), (["c", "a", "b"], "b"), (["c", "b", "a"], "a"), (["d", "c", "d"], "c"),
            (["a", "x", "y"], "a"), (["x", "y", "c"], "c"), (["a"], "a"), (["x", "y"], None), ([], None),
        ):
            with self.subTest(order):
                crown = Crown(("a", "b", "c"), (0, 1), order)
                self.assertEqual(crown.leader(), leader)
                self.assertEqual(crown.story(), [((0, 1), leader)])

    def test_the_order_of_the_names_in_the_group_says_nothing(self):
        for names in (("a", "b", "c"), ("c", "b", "a"), ("b", "a", "c")):
            self.assertEqual(Crown(names, (0, 1), ["c", "a", "b"]).leader(), "b")

    def test_a_group_of_none(self):
        crown = crown_of((), ((0, 1), ["a", "b"]), ((1, 1), []), ((2, 1), ["b"]))
        self.assertIsNone(crown.leader())
        self.assertEqual(crown.story(), [((0, 1), None)])
        self.assertIsNone(crown.who((5, 1)))

    def test_a_name_told_twice_counts_once(self):
        crown = Crown(("a", "a"), (0, 1), ["b", "a", "c"])
        self.assertEqual(crown.story(), [((0, 1), "a")])
        crown.note((1, 1), ["b", "c"])
        self.assertEqual(crown.story(), [((0, 1), "a"), ((1, 1), None)])

    def test_names_that_are_in_no_order(self):
        crown = Crown(("nobody", "a", ""), (0, 1), ["a", "b"])
        self.assertEqual(crown.leader(), "a")
        crown.note((1, 1), ["b"])
        self.assertIsNone(crown.leader())

    def test_a_name_is_not_part_of_another(self):
        self.assertIsNone(Crown(("abc",), (0, 1), ["a", "ab", "bc"]).leader())

    def test_it_may_begin_at_any_moment(self):
        crown = Crown(("a",), (-7, 3), ["a"])
        crown.note((-2, 1), [])
        self.assertEqual(crown.story(), [((-7, 3), "a"), ((-2, 1), None)])


class Noting(Checked):
    def test_a_new_leader_comes_behind(self):
        crown = Crown(("a", "b"), (0, 1), ["a", "b"])
        self.assertIsNone(crown.note((7, 2), ["b", "a"]))
        self.assertEqual(crown.leader(), "a")
        self.assertEqual(crown.story(), [((0, 1), "b"), ((7, 2), "a")])

    def test_a_note_that_changes_no_leader(self):
        crown = crown_of(("a", "b"), ((0, 1), ["a", "b"]), ((1, 1), ["a", "x", "b", "y"]), ((2, 1), ["b"]))
        self.assertEqual(crown.leader(), "b")
        self.assertEqual(crown.story(), [((0, 1), "b")])

    def test_at_the_very_moment_of_the_last_tuple(self):
        crown = crown_of(("a", "b", "c"), ((0, 1), ["a"]), ((1, 1), ["a", "b"]), ((1, 1), ["a", "b", "c"]))
        self.assertEqual(crown.story(), [((0, 1), "a"), ((1, 1), "c")])
        crown.note((1, 1), ["a", "c"])
        self.assertEqual(crown.story(), [((0, 1), "a"), ((1, 1), "c")])

    def test_at_the_very_moment_of_the_beginning(self):
        crown = crown_of(("a", "b"), ((4, 1), ["a"]), ((4, 1), ["a", "b"]))
        self.assertEqual(crown.story(), [((4, 1), "b")])
        crown.note((4, 1), ["a", "b"])
        self.assertEqual(crown.story(), [((4, 1), "b")])
        crown.note((4, 1), [])
        self.assertEqual(crown.story(), [((4, 1), None)])
        self.assertIsNone(crown.who((4, 1)))

    def test_the_tuple_is_taken_out_and_the_one_ahead_has_the_new_leader(self):
        crown = crown_of(("a", "b"), ((0, 1), ["a"]), ((1, 1), ["a", "b"]), ((1, 1), ["b", "a"]))
        self.assertEqual(crown.story(), [((0, 1), "a")])
        self.assertEqual(crown.leader(), "a")
        crown.note((1, 1), ["a", "b"])
        self.assertEqual(crown.story(), [((0, 1), "a"), ((1, 1), "b")])

    def test_only_the_last_tuple_is_taken_out(self):
        crown = crown_of(("a", "b"), ((0, 1), ["a"]), ((1, 1), ["b"]), ((2, 1), ["a"]), ((2, 1), ["b"]))
        self.assertEqual(crown.story(), [((0, 1), "a"), ((1, 1), "b")])
        crown.note((2, 1), ["a"])
        self.assertEqual(crown.story(), [((0, 1), "a"), ((1, 1), "b"), ((2, 1), "a")])

    def test_none_as_a_leader_and_back(self):
        crown = crown_of(("a", "b"), ((0, 1), []), ((1, 1), ["a"]), ((2, 1), ["x"]), ((3, 1), []), ((4, 1), ["a"]))
        self.assertEqual(crown.story(), [((0, 1), None), ((1, 1), "a"), ((2, 1), None), ((4, 1), "a")])
        crown.note((4, 1), [])
        self.assertEqual(crown.story(), [((0, 1), None), ((1, 1), "a"), ((2, 1), None)])
        self.assertIsNone(crown.leader())

    def test_moments_that_differ_by_next_to_nothing(self):
        later = near((1, 1), TINY)
        crown = crown_of(("a", "b"), ((0, 1), ["a"]), ((1, 1), ["b"]), (later, ["a"]))
        self.assertEqual(crown.story(), [((0, 1), "a"), ((1, 1), "b"), (later, "a")])
        self.assertEqual(crown.who(near((1, 1), TINY / 2)), "b")

    def test_many_notes(self):
        crown = Crown(("a", "b"), (0, 1), ["a", "b"])
        for number in range(1, 3001):
            crown.note(told(Fraction(number, 7)), ["b", "a"] if number % 3 else ["a", "b"])
        self.assertEqual(len(crown.story()), 2001)
        self.assertEqual(crown.story()[:4], [((0, 1), "b"), ((1, 7), "a"), ((3, 7), "b"), ((4, 7), "a")])
        self.assertEqual(crown.story()[-1], ((3000, 7), "b"))
        self.assertEqual(crown.who((1000, 7)), "a")
        self.assertEqual(crown.who((999, 7)), "b")


class Who(Checked):
    def setUp(self):
        self.crown = crown_of(
            ("a", "b"), ((1, 2), ["a"]), ((3, 1), ["b"]), ((13, 4), []), ((5, 1), ["a"]), ((9, 1), ["a"]))

    def test_at_the_moment_of_each_tuple_and_just_beside_it(self):
        self.assertEqual(self.crown.story(), [((1, 2), "a"), ((3, 1), "b"), ((13, 4), None), ((5, 1), "a")])
        for moment, ahead, leader in (((3, 1), "a", "b"), ((13, 4), "b", None), ((5, 1), None, "a")):
            with self.subTest(moment):
                self.assertEqual(self.crown.who(near(moment, -TINY)), ahead)
                self.assertEqual(self.crown.who(moment), leader)
                self.assertEqual(self.crown.who(near(moment, TINY)), leader)

    def test_at_the_beginning_and_ahead_of_it(self):
        self.assertEqual(self.crown.who((1, 2)), "a")
        for moment in (near((1, 2), -TINY), (0, 1), (-1, 2), (-100, 1)):
            self.assertIs(refusal_of(self.crown.who, moment), NotThere)

    def test_between_two_and_later_than_all(self):
        for moment, leader in (((1, 1), "a"), ((25, 8), "b"), ((4, 1), None), ((9, 1), "a"), ((10 ** 40, 3), "a")):
            self.assertEqual(self.crown.who(moment), leader)

    def test_asking_changes_nothing(self):
        ahead = self.crown.story()
        self.crown.who((4, 1))
        refusal_of(self.crown.who, (0, 1))
        self.assertEqual(self.crown.story(), ahead)


class TheAskersOwn(Checked):
    def test_orders_that_the_asker_changes_behind_the_call(self):
        first, second = ["a", "b"], ["b", "a"]
        crown = Crown(("a", "b"), (0, 1), first)
        crown.note((1, 1), second)
        self.assertEqual((first, second), (["a", "b"], ["b", "a"]))
        first.clear()
        second.append("b")
        self.assertEqual(crown.leader(), "a")
        self.assertEqual(crown.story(), [((0, 1), "b"), ((1, 1), "a")])
        crown.note((2, 1), ["a"])
        self.assertEqual(crown.story(), [((0, 1), "b"), ((1, 1), "a")])

    def test_a_told_story_that_the_asker_empties(self):
        crown = crown_of(("a", "b"), ((0, 1), ["a"]), ((1, 1), ["b"]))
        crown.story().clear()
        crown.story().append("more")
        self.assertEqual(crown.story(), [((0, 1), "a"), ((1, 1), "b")])
        self.assertEqual(crown.leader(), "b")
        self.assertEqual(crown.who((0, 1)), "a")
        told_ahead = crown.story()
        crown.note((2, 1), [])
        self.assertEqual(told_ahead, [((0, 1), "a"), ((1, 1), "b")])


class Twins(Checked):
    def test_a_twin_is_alike(self):
        crown = crown_of(("a", "b"), ((1, 1), ["a"]), ((2, 1), ["b"]))
        twin = crown.twin()
        self.assertIs(type(twin), Crown)
        self.assertIsNot(twin, crown)
        self.assertEqual(twin.story(), crown.story())
        self.assertEqual(twin.leader(), "b")
        self.assertEqual([twin.who((1, 1)), twin.who((2, 1))], ["a", "b"])
        self.assertIs(refusal_of(twin.who, (1, 2)), NotThere)

    def test_a_twin_goes_on_alike(self):
        crown = crown_of(("a", "b"), ((1, 1), ["a"]), ((2, 1), ["b"]))
        twin = crown.twin()
        for moment, order in (((2, 1), ["b", "a"]), ((3, 1), ["a", "b"]), ((4, 1), ["c"]), ((5, 1), ["c", "b"])):
            crown.note(moment, order)
            twin.note(moment, order)
            self.assertEqual(twin.story(), crown.story())
        self.assertEqual(twin.story(), [((1, 1), "a"), ((3, 1), "b"), ((4, 1), None), ((5, 1), "b")])

    def test_neither_changes_the_other(self):
        for changed, kept in ((0, 1), (1, 0)):
            crown = crown_of(("a", "b"), ((1, 1), ["a"]), ((2, 1), ["b"]))
            both = (crown, crown.twin())
            both[changed].note((2, 1), [])
            both[changed].note((3, 1), ["a"])
            self.assertEqual(both[kept].story(), [((1, 1), "a"), ((2, 1), "b")])
            self.assertEqual(both[kept].leader(), "b")
            self.assertEqual(both[kept].who((3, 1)), "b")
            self.assertEqual(both[changed].story(), [((1, 1), "a"), ((2, 1), None), ((3, 1), "a")])

    def test_two_crowns_apart(self):
        one, other = Crown(("a",), (0, 1), ["a"]), Crown(("a",), (0, 1), ["a"])
        one.note((1, 1), [])
        self.assertEqual(other.story(), [((0, 1), "a")])


class BesideAPlainModel(Checked):
    def test_notes_by_chance(self):
        for run in range(200):
            chance = random.Random(run)
            names = tuple(chance.choices("abcd", k=chance.randint(0, 3)))
            moment, orders, crown = Fraction(chance.randint(-3, 3)), {}, None
            for number in range(20):
                order = chance.sample("abcdef", chance.randint(0, 6))
                if crown is None:
                    crown = Crown(names, told(moment), order)
                else:
                    crown.note(told(moment), order)
                # Of several notes at one moment the last one holds.
                orders[moment] = order
                leaders = {at: next((name for name in orders[at][::-1] if name in names), None) for at in orders}
                moments = sorted(orders)
                story = [(told(at), leaders[at]) for at, ahead in zip(moments, [None] + moments)
                         if ahead is None or leaders[at] != leaders[ahead]]
                self.assertEqual(crown.story(), story)
                self.assertEqual(crown.leader(), leaders[moment])
                for at in moments:
                    self.assertEqual(crown.who(told(at)), leaders[at])
                moment += Fraction(chance.choice((0, 0, 1, 2)), chance.choice((1, 2, 3)))


if __name__ == "__main__":
    unittest.main()
