"""Point 8: bells in order, at most one of each two names."""

import random
import unittest
from fractions import Fraction

from checked import Checked, told
from overhaul.bells import Bells

GREAT = 10 ** 35 + 3


def filled(rows):
    bells = Bells()
    for moment, hind, fore in rows:
        bells.put(moment, hind, fore)
    return bells


class Order(Checked):
    def assert_order(self, rows):
        """In whatever order they are put, they stand as they are handed in here."""
        chance = random.Random(len(rows))
        for shuffle in range(12):
            mixed = list(rows)
            chance.shuffle(mixed)
            bells = filled(mixed)
            self.assertEqual(bells.told(), rows)
            self.assertEqual(bells.first(), rows[0])
            self.assertEqual([bells.take() for row in rows], rows)
            self.assertIsNone(bells.take())

    def test_by_moment_whatever_the_names(self):
        self.assert_order([((-5, 2), "z", "y"), ((-1, 3), "y", "x"), ((0, 1), "x", "w"),
                           ((1, 3), "w", "v"), ((1, 2), "v", "u"), ((7, 3), "u", "t"), ((5, 2), "b", "a")])

    def test_alike_moments_by_hind_then_by_fore(self):
        self.assert_order([((1, 2), "0", "z"), ((1, 2), "9", "a"), ((1, 2), "a", "0"), ((1, 2), "a", "9"),
                           ((1, 2), "a", "b"), ((1, 2), "a", "ba"), ((1, 2), "a0", "b"), ((1, 2), "aa", "a"),
                           ((1, 2), "b", "a"), ((1, 2), "b", "a0")])

    def test_moments_that_differ_by_1_over_a_very_great_number(self):
        first = Fraction(1, 3)
        rows = [(told(first + Fraction(step, GREAT)), name, "m") for step, name in enumerate("zyxwa")]
        self.assert_order(rows)
        self.assert_order([((1, GREAT + 1), "b", "a"), ((1, GREAT), "a", "b")])
        self.assert_order([((-1, GREAT), "b", "a"), ((-1, GREAT + 1), "a", "b")])

    def test_a_pair_and_the_pair_turned_side_by_side(self):
        bells = filled([((2, 1), "a", "b"), ((1, 1), "b", "a")])
        self.assertEqual(bells.told(), [((1, 1), "b", "a"), ((2, 1), "a", "b")])
        self.assertIs(bells.drop("a", "b"), True)
        self.assertEqual(bells.told(), [((1, 1), "b", "a")])
        self.assert_order([((1, 1), "a", "b"), ((1, 1), "b", "a")])

    def test_each_bell_is_a_tuple_as_told(self):
        bells = filled([((1, 2), "a", "b")])
        self.assertEqual(bells.first(), ((1, 2), "a", "b"))
        self.assertIs(type(bells.first()), tuple)
        self.assertIs(type(bells.told()), list)
        self.assert_told(bells.first()[0], (1, 2))


class PutAndDrop(Checked):
    def setUp(self):
        self.bells = filled([((1, 1), "a", "b"), ((2, 1), "b", "c"), ((3, 1), "c", "d")])

    def test_put_tells_nothing(self):
        self.assertIsNone(self.bells.put((9, 1), "x", "y"))
        self.assertIsNone(self.bells.put((8, 1), "x", "y"))

    def test_a_put_later_than_the_elder(self):
        self.bells.put((4, 1), "b", "c")
        self.assertEqual(self.bells.told(), [((1, 1), "a", "b"), ((3, 1), "c", "d"), ((4, 1), "b", "c")])

    def test_a_put_earlier_than_the_elder(self):
        self.bells.put((1, 2), "b", "c")
        self.assertEqual(self.bells.told(), [((1, 2), "b", "c"), ((1, 1), "a", "b"), ((3, 1), "c", "d")])
        self.assertEqual(self.bells.first(), ((1, 2), "b", "c"))

    def test_a_put_at_the_elders_moment(self):
        self.bells.put((2, 1), "b", "c")
        self.assertEqual(self.bells.told(), [((1, 1), "a", "b"), ((2, 1), "b", "c"), ((3, 1), "c", "d")])

    def test_drop(self):
        self.assertIs(self.bells.drop("b", "c"), True)
        self.assertEqual(self.bells.told(), [((1, 1), "a", "b"), ((3, 1), "c", "d")])
        self.assertIs(self.bells.drop("b", "c"), False)
        self.assertEqual(self.bells.told(), [((1, 1), "a", "b"), ((3, 1), "c", "d")])

    def test_drop_of_a_pair_without_a_bell(self):
        for hind, fore in (("c", "b"), ("a", "c"), ("a", ""), ("", "b"), ("ab", ""), ("x", "y"), ("a", "a")):
            self.assertIs(self.bells.drop(hind, fore), False)
        self.assertEqual(self.bells.told(), [((1, 1), "a", "b"), ((2, 1), "b", "c"), ((3, 1), "c", "d")])
        self.assertIs(Bells().drop("a", "b"), False)

    def test_a_put_behind_a_drop_and_behind_a_take(self):
        self.bells.drop("b", "c")
        self.bells.take()
        self.bells.put((5, 1), "b", "c")
        self.bells.put((4, 1), "a", "b")
        self.assertEqual(self.bells.told(), [((3, 1), "c", "d"), ((4, 1), "a", "b"), ((5, 1), "b", "c")])

    def test_any_row_of_calls(self):
        chance = random.Random(8)
        bells, kept = Bells(), {}
        for call in range(1500):
            pair = (chance.choice("abcde"), chance.choice("abcde"))
            act = chance.choice(("put", "put", "put", "drop", "take"))
            rows = sorted((moment, *names) for names, moment in kept.items())
            if act == "put":
                kept[pair] = Fraction(chance.randint(-6, 6), chance.randint(1, 4))
                bells.put(told(kept[pair]), *pair)
            elif act == "drop":
                self.assertIs(bells.drop(*pair), pair in kept)
                kept.pop(pair, None)
            else:
                self.assertEqual(bells.take(), (told(rows[0][0]), *rows[0][1:]) if rows else None)
                kept.pop(rows[0][1:] if rows else None, None)
            rows = sorted((moment, *names) for names, moment in kept.items())
            self.assertEqual(bells.told(), [(told(moment), hind, fore) for moment, hind, fore in rows])


class FirstAndTake(unittest.TestCase):
    def test_none_where_there_is_none(self):
        bells = Bells()
        self.assertIsNone(bells.first())
        self.assertIsNone(bells.take())
        self.assertEqual(bells.told(), [])
        bells.put((1, 1), "a", "b")
        bells.take()
        self.assertIsNone(bells.first())
        self.assertIsNone(bells.take())
        self.assertEqual(bells.told(), [])

    def test_first_stays_and_take_takes_out(self):
        bells = filled([((2, 1), "a", "b"), ((1, 1), "c", "d")])
        for time in range(3):
            self.assertEqual(bells.first(), ((1, 1), "c", "d"))
        self.assertEqual(len(bells.told()), 2)
        self.assertEqual(bells.take(), ((1, 1), "c", "d"))
        self.assertEqual(bells.told(), [((2, 1), "a", "b")])
        self.assertEqual(bells.first(), ((2, 1), "a", "b"))
        self.assertIs(bells.drop("c", "d"), False)
        self.assertEqual(bells.take(), ((2, 1), "a", "b"))

    def test_two_objects_apart(self):
        one, other = Bells(), Bells()
        one.put((1, 1), "a", "b")
        self.assertIsNone(other.first())
        other.put((2, 1), "a", "b")
        one.drop("a", "b")
        self.assertEqual(other.told(), [((2, 1), "a", "b")])
        self.assertEqual(one.told(), [])

    def test_a_told_list_is_the_askers_own(self):
        bells = filled([((2, 1), "a", "b"), ((1, 1), "c", "d")])
        bells.told().clear()
        self.assertEqual(bells.told(), [((1, 1), "c", "d"), ((2, 1), "a", "b")])
        bells.told().append("more")
        self.assertEqual([bells.take(), bells.take(), bells.take()], [((1, 1), "c", "d"), ((2, 1), "a", "b"), None])


if __name__ == "__main__":
    unittest.main()
