"""Points 6, 7 and 18: the legs of one craft, where it is there, and twins of logs."""

import random
import unittest
from fractions import Fraction

from checked import Checked, told
from overhaul.errors import NotThere
from overhaul.logs import Log

GREAT = 10 ** 35 + 3
TINY = Fraction(1, GREAT)


def near(moment, step):
    """A moment that differs by next to nothing."""
    return told(Fraction(*moment) + step)


class Turning(Checked):
    def test_at_first_one_leg(self):
        self.assertEqual(Log((2, 1), (7, 2), 3).legs(), [((2, 1), (7, 2), 3)])

    def test_it_may_begin_below_nought(self):
        log = Log((-5, 2), (-1, 3), 6)
        self.assertIsNone(log.turn((-2, 1), -6))
        self.assertIsNone(log.turn((1, 2), 0))
        self.assertEqual(log.legs(), [((-5, 2), (-1, 3), 6), ((-2, 1), (8, 3), -6), ((1, 2), (-37, 3), 0)])
        self.assert_told(log.place((-5, 2)), (-1, 3))
        self.assert_told(log.place((0, 1)), (-28, 3))

    def test_the_place_is_reckoned_on_the_last_leg(self):
        log = Log((0, 1), (10, 1), 2)
        log.turn((1, 3), -4)
        log.turn((5, 6), 1)
        self.assertEqual(log.legs(), [((0, 1), (10, 1), 2), ((1, 3), (32, 3), -4), ((5, 6), (26, 3), 1)])

    def test_at_the_moment_of_the_last_leg(self):
        log = Log((0, 1), (10, 1), 2)
        log.turn((3, 1), 5)
        log.turn((3, 1), -7)
        self.assertEqual(log.legs(), [((0, 1), (10, 1), 2), ((3, 1), (16, 1), -7)])

    def test_at_the_moment_of_the_joining(self):
        log = Log((4, 1), (10, 1), 2)
        log.turn((4, 1), 5)
        self.assertEqual(log.legs(), [((4, 1), (10, 1), 5)])
        log.turn((4, 1), 2)
        self.assertEqual(log.legs(), [((4, 1), (10, 1), 2)])
        self.assertIs(log.there((4, 1)), True)
        self.assertIs(log.there((3, 1)), False)

    def test_the_leg_is_taken_out_and_the_one_ahead_has_the_new_pace(self):
        log = Log((0, 1), (10, 1), 2)
        log.turn((3, 1), 5)
        log.turn((3, 1), 2)
        self.assertEqual(log.legs(), [((0, 1), (10, 1), 2)])
        log.turn((4, 1), 1)
        self.assertEqual(log.legs(), [((0, 1), (10, 1), 2), ((4, 1), (18, 1), 1)])

    def test_to_the_same_pace(self):
        log = Log((0, 1), (10, 1), 2)
        log.turn((3, 1), 2)
        self.assertEqual(log.legs(), [((0, 1), (10, 1), 2)])
        log.turn((3, 1), 5)
        log.turn((3, 1), 5)
        self.assertEqual(log.legs(), [((0, 1), (10, 1), 2), ((3, 1), (16, 1), 5)])
        log.turn((4, 1), 5)
        self.assertEqual(log.legs(), [((0, 1), (10, 1), 2), ((3, 1), (16, 1), 5)])

    def test_at_the_joining_to_the_same_pace(self):
        log = Log((1, 2), (10, 1), 2)
        log.turn((1, 2), 2)
        self.assertEqual(log.legs(), [((1, 2), (10, 1), 2)])

    def test_numbers_of_any_size(self):
        log = Log((-GREAT, 1), (1, GREAT), GREAT)
        log.turn((GREAT, 1), -GREAT)
        self.assertEqual(log.legs()[-1], ((GREAT, 1), told(Fraction(1, GREAT) + 2 * GREAT ** 2), -GREAT))

    def test_many_turns(self):
        chance = random.Random(6)
        for run in range(60):
            moment = Fraction(chance.randint(-90, 90), chance.randint(1, 12))
            place, pace = Fraction(chance.randint(-50, 50), chance.randint(1, 9)), chance.randint(-3, 3)
            log = Log(told(moment), told(place), pace)
            paces = {moment: pace}
            last = moment
            for turn in range(40):
                last += chance.choice((0, 0, 0, 1)) * Fraction(chance.randint(1, 30), chance.randint(1, 30))
                paces[last] = chance.randint(-3, 3)
                log.turn(told(last), paces[last])
            wanted = []
            for begun in sorted(paces):
                if wanted:
                    place += (begun - moment) * pace
                moment, pace = begun, paces[begun]
                if not wanted or wanted[-1][2] != pace:
                    wanted.append((told(moment), told(place), pace))
            self.assertEqual(log.legs(), wanted)


class There(Checked):
    def setUp(self):
        self.log = Log((1, 1), (10, 1), 2)
        self.log.turn((2, 1), -3)
        self.log.turn((9, 2), 0)
        self.legs = [((1, 1), (10, 1), 2), ((2, 1), (12, 1), -3), ((9, 2), (9, 2), 0)]

    def assert_not_there(self, log, moment):
        self.assertIs(log.there(moment), False)
        with self.assertRaises(NotThere):
            log.leg_at(moment)
        with self.assertRaises(NotThere):
            log.place(moment)

    def assert_there(self, log, moment, leg, place):
        self.assertIs(log.there(moment), True)
        self.assertEqual(log.leg_at(moment), leg)
        self.assert_told(log.place(moment), place)

    def test_at_the_moment_of_each_leg(self):
        for leg in self.legs:
            self.assert_there(self.log, leg[0], leg, leg[1])

    def test_just_ahead_of_each_leg_and_just_behind(self):
        for at in (1, 2):
            moment, place, pace = self.legs[at]
            ahead = told(Fraction(*place) - TINY * self.legs[at - 1][2])
            self.assert_there(self.log, near(moment, -TINY), self.legs[at - 1], ahead)
            self.assert_there(self.log, near(moment, TINY), self.legs[at], told(Fraction(*place) + TINY * pace))

    def test_ahead_of_the_joining(self):
        for moment in (near((1, 1), -TINY), (1, 2), (0, 1), (-1, 1), (-GREAT, 1)):
            self.assert_not_there(self.log, moment)

    def test_a_joining_below_nought(self):
        log = Log((-3, 2), (0, 1), 4)
        self.assert_there(log, (-3, 2), ((-3, 2), (0, 1), 4), (0, 1))
        self.assert_there(log, (-1, 1), ((-3, 2), (0, 1), 4), (2, 1))
        self.assert_not_there(log, (-2, 1))

    def test_between_and_beyond_the_legs(self):
        self.assert_there(self.log, (3, 2), self.legs[0], (11, 1))
        self.assert_there(self.log, (3, 1), self.legs[1], (9, 1))
        self.assert_there(self.log, (GREAT, 1), self.legs[2], (9, 2))
        self.assertIsNone(self.log.left())

    def test_at_the_leaving_and_behind_it(self):
        self.assertIsNone(self.log.leave((6, 1)))
        self.assert_told(self.log.left(), (6, 1))
        self.assert_there(self.log, near((6, 1), -TINY), self.legs[2], (9, 2))
        for moment in ((6, 1), near((6, 1), TINY), (7, 1), (GREAT, 1)):
            self.assert_not_there(self.log, moment)
        for leg in self.legs:
            self.assert_there(self.log, leg[0], leg, leg[1])
        self.assert_not_there(self.log, (1, 2))
        self.assertEqual(self.log.legs(), self.legs)

    def test_leaving_at_the_moment_of_joining(self):
        for moment in ((0, 1), (7, 3), (-7, 3)):
            log = Log(moment, (10, 1), 2)
            log.leave(moment)
            self.assertEqual(log.left(), moment)
            for step in (-1, -TINY, 0, TINY, 1):
                self.assert_not_there(log, near(moment, step))
            self.assertEqual(log.legs(), [(moment, (10, 1), 2)])

    def test_leaving_at_nought(self):
        log = Log((-1, 1), (10, 1), 2)
        log.leave((0, 1))
        self.assertEqual(log.left(), (0, 1))
        self.assert_not_there(log, (0, 1))
        self.assert_there(log, (-1, 2), ((-1, 1), (10, 1), 2), (11, 1))

    def test_a_leg_that_begins_at_the_moment_of_leaving_stays(self):
        self.log.turn((6, 1), 8)
        self.log.leave((6, 1))
        self.assertEqual(self.log.legs(), self.legs + [((6, 1), (9, 2), 8)])
        self.assert_not_there(self.log, (6, 1))
        self.assert_there(self.log, (5, 1), self.legs[2], (9, 2))

    def test_every_moment_of_many_turns(self):
        chance = random.Random(7)
        log = Log((0, 1), (0, 1), 0)
        for second in range(1, 60):
            log.turn((second, 1), chance.choice((-1, 1)))
        log.leave((60, 1))
        legs = log.legs()
        for half in range(120):
            moment = told(Fraction(half, 2))
            leg = [leg for leg in legs if Fraction(*leg[0]) <= Fraction(half, 2)][-1]
            place = Fraction(*leg[1]) + leg[2] * (Fraction(half, 2) - Fraction(*leg[0]))
            self.assert_there(log, moment, leg, told(place))


class OwnLists(Checked):
    def test_a_told_list_is_the_askers_own(self):
        log = Log((0, 1), (10, 1), 2)
        log.turn((3, 1), 5)
        legs = log.legs()
        self.assertIs(type(legs), list)
        legs.clear()
        self.assertEqual(log.legs(), [((0, 1), (10, 1), 2), ((3, 1), (16, 1), 5)])
        log.legs().append("more")
        self.assertEqual(len(log.legs()), 2)
        self.assert_told(log.place((4, 1)), (21, 1))

    def test_two_logs_apart(self):
        one, other = Log((0, 1), (10, 1), 2), Log((0, 1), (10, 1), 2)
        one.turn((1, 1), 3)
        one.leave((2, 1))
        self.assertEqual(other.legs(), [((0, 1), (10, 1), 2)])
        self.assertIsNone(other.left())


class Twins(Checked):
    def test_a_twin_is_alike(self):
        log = Log((-1, 2), (10, 3), 2)
        log.turn((3, 1), 5)
        twin = log.twin()
        self.assertIs(type(twin), Log)
        self.assertIsNot(twin, log)
        self.assertEqual(twin.legs(), log.legs())
        self.assertIsNone(twin.left())
        self.assertEqual(twin.leg_at((3, 1)), log.leg_at((3, 1)))

    def test_ahead_of_turns_neither_changes_the_other(self):
        log = Log((0, 1), (10, 1), 2)
        twin = log.twin()
        log.turn((1, 1), 3)
        self.assertEqual(twin.legs(), [((0, 1), (10, 1), 2)])
        twin.turn((2, 1), -3)
        twin.leave((5, 1))
        self.assertEqual(log.legs(), [((0, 1), (10, 1), 2), ((1, 1), (12, 1), 3)])
        self.assertEqual(twin.legs(), [((0, 1), (10, 1), 2), ((2, 1), (14, 1), -3)])
        self.assertIsNone(log.left())
        self.assertIs(log.there((5, 1)), True)
        self.assertIs(twin.there((5, 1)), False)

    def test_a_turn_that_takes_a_leg_out_leaves_the_twins(self):
        log = Log((0, 1), (10, 1), 2)
        log.turn((1, 1), 3)
        twin = log.twin()
        twin.turn((1, 1), 2)
        self.assertEqual(twin.legs(), [((0, 1), (10, 1), 2)])
        self.assertEqual(log.legs(), [((0, 1), (10, 1), 2), ((1, 1), (12, 1), 3)])

    def test_behind_a_leaving(self):
        log = Log((0, 1), (10, 1), 2)
        log.turn((1, 1), 3)
        log.leave((2, 1))
        twin = log.twin()
        self.assert_told(twin.left(), (2, 1))
        self.assertEqual(twin.legs(), log.legs())
        self.assertIs(twin.there((2, 1)), False)
        self.assertIs(twin.there((1, 1)), True)
        with self.assertRaises(NotThere):
            twin.place((2, 1))

    def test_a_twin_of_a_twin(self):
        log = Log((0, 1), (10, 1), 2)
        twin = log.twin()
        third = twin.twin()
        twin.turn((1, 1), 0)
        self.assertEqual(third.legs(), log.legs())
        self.assertEqual(len(twin.legs()), 2)


if __name__ == "__main__":
    unittest.main()
