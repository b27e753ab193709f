"""Points 1 and 14: on which side of a post a craft is, and when it goes by."""

import random
import unittest
from fractions import Fraction

from checked import Checked, told
from overhaul.logs import Log
from overhaul.posts import above, goings_by

GREAT = 10 ** 35 + 3
TINY = Fraction(1, GREAT)


def leg(moment, place, pace):
    """A leg of Python's own numbers."""
    return (told(Fraction(moment)), told(Fraction(place)), pace)


def legs_of(moment, place, pace, *turns):
    """The legs of a log that joins so and turns at these (moment, pace)."""
    log = Log(told(Fraction(moment)), told(Fraction(place)), pace)
    for at, turned in turns:
        log.turn(told(Fraction(at)), turned)
    return log.legs()


class Above(Checked):
    def test_away_from_the_post(self):
        for pace in (-3, 0, 3):
            self.assertIs(above(leg(0, 11, pace), (0, 1), 10), True)
            self.assertIs(above(leg(0, 9, pace), (0, 1), 10), False)

    def test_at_the_post(self):
        for pace, side in ((1, True), (1000, True), (0, True), (-1, False), (-1000, False)):
            for post in (-7, 0, 10):
                self.assertIs(above(leg(4, post, pace), (4, 1), post), side)

    def test_the_place_is_reckoned_on_the_leg(self):
        self.assertIs(above(leg(0, 0, 2), (5, 1), 10), True)
        self.assertIs(above(leg(0, 0, 2), (9, 2), 10), False)
        self.assertIs(above(leg(0, 20, -2), (5, 1), 10), False)
        self.assertIs(above(leg(0, 20, -2), (9, 2), 10), True)
        self.assertIs(above(leg(3, 10, 4), (2, 1), 10), False)
        self.assertIs(above(leg(3, 10, -4), (-2, 1), 10), True)

    def test_beside_the_post_by_a_small_fraction(self):
        for pace in (-5, 0, 5):
            self.assertIs(above(leg(1, 10 + TINY, pace), (1, 1), 10), True)
            self.assertIs(above(leg(1, 10 - TINY, pace), (1, 1), 10), False)
            self.assertIs(above(leg(1, -10 + TINY, pace), (1, 1), -10), True)
            self.assertIs(above(leg(1, -10 - TINY, pace), (1, 1), -10), False)

    def test_beside_the_moment_by_a_small_fraction(self):
        self.assertIs(above(leg(0, 0, 2), told(5 - TINY), 10), False)
        self.assertIs(above(leg(0, 0, 2), told(5 + TINY), 10), True)
        self.assertIs(above(leg(0, 0, -2), told(5 - TINY), -10), True)
        self.assertIs(above(leg(0, 0, -2), told(5 + TINY), -10), False)


class OneLeg(Checked):
    def test_it_goes_by(self):
        self.assertEqual(goings_by([leg(0, 0, 3)], (9, 1), 10), [((10, 3), "up")])
        self.assertEqual(goings_by([leg(0, 0, -3)], (9, 1), -10), [((10, 3), "down")])
        self.assertEqual(goings_by([leg("-7/2", "1/2", 2)], (9, 1), 3), [((-9, 4), "up")])

    def test_what_is_told(self):
        goings = goings_by([leg(0, 0, 2)], (9, 1), 10)
        self.assertIs(type(goings), list)
        self.assertIs(type(goings[0]), tuple)
        self.assert_told(goings[0][0], (5, 1))

    def test_it_goes_away_from_the_post(self):
        for place, pace in ((11, 1), (9, -1), (11, 0), (9, 0)):
            self.assertEqual(goings_by([leg(0, place, pace)], (1000, 1), 10), [])

    def test_at_the_very_moment_until(self):
        for pace, way in ((2, "up"), (-2, "down")):
            legs, post = [leg(0, 0, pace)], 5 * pace
            self.assertEqual(goings_by(legs, (5, 1), post), [((5, 1), way)])
            self.assertEqual(goings_by(legs, told(5 - TINY), post), [])
            self.assertEqual(goings_by(legs, told(5 + TINY), post), [((5, 1), way)])

    def test_at_the_first_legs_moment_none_is_told(self):
        for pace in (-2, 0, 2):
            for until in ((3, 1), (4, 1)):
                self.assertEqual(goings_by([leg(3, 10, pace)], until, 10), [])

    def test_beside_the_post_at_first(self):
        self.assertEqual(goings_by([leg(0, 10 - TINY, 1)], (1, 1), 10), [(told(TINY), "up")])
        self.assertEqual(goings_by([leg(0, 10 + TINY, 1)], (1, 1), 10), [])
        self.assertEqual(goings_by([leg(0, 10 + TINY, -1)], (1, 1), 10), [(told(TINY), "down")])
        self.assertEqual(goings_by([leg(0, 10 - TINY, -1)], (1, 1), 10), [])

    def test_it_stands_at_the_post(self):
        self.assertEqual(goings_by([leg(0, 10, 0)], (5, 1), 10), [])

    def test_it_begins_at_until(self):
        for place, pace in ((10, 5), (10, -5), (10, 0), (9, 5), (11, -5)):
            self.assertEqual(goings_by([leg(2, place, pace)], (2, 1), 10), [])


class Turns(Checked):
    def test_up_and_down_by_turns(self):
        legs = legs_of(0, 0, 4, (5, -4), (10, 3), (15, -7))
        self.assertEqual(goings_by(legs, (20, 1), 10), [
            ((5, 2), "up"), ((15, 2), "down"), ((40, 3), "up"), ((110, 7), "down")])
        self.assertEqual(goings_by(legs, (15, 1), 10), [((5, 2), "up"), ((15, 2), "down"), ((40, 3), "up")])
        legs = legs_of(0, 0, 4, (5, -4))
        self.assertEqual(goings_by(legs, (15, 2), 10), [((5, 2), "up"), ((15, 2), "down")])
        self.assertEqual(goings_by(legs, (5, 1), 10), [((5, 2), "up")])

    def test_a_leg_that_ends_at_the_post(self):
        for pace, turned, goings in (
            (2, 3, [((5, 1), "up")]), (2, 0, [((5, 1), "up")]), (2, -2, []),
            (-2, -3, [((5, 1), "down")]), (-2, 0, []), (-2, 2, []),
        ):
            with self.subTest(pace=pace, turned=turned):
                legs = legs_of(0, 10 - 5 * pace, pace, (5, turned))
                self.assertEqual(goings_by(legs, (6, 1), 10), goings)
                # The leg that begins at the last moment handed in counts just so.
                self.assertEqual(goings_by(legs, (5, 1), 10), goings)

    def test_until_ahead_of_the_turn_at_the_post(self):
        self.assertEqual(goings_by(legs_of(0, 0, 2), (5, 1), 10), [((5, 1), "up")])
        self.assertEqual(goings_by(legs_of(0, 0, 2), (4, 1), 10), [])

    def test_it_stands_at_the_post_for_a_while(self):
        for pace, turned, goings in (
            (2, 3, [((5, 1), "up")]), (2, -3, [((5, 1), "up"), ((8, 1), "down")]),
            (-2, 3, []), (-2, -3, [((8, 1), "down")]),
        ):
            with self.subTest(pace=pace, turned=turned):
                legs = legs_of(0, 10 - 5 * pace, pace, (5, 0), (8, turned))
                self.assertEqual(goings_by(legs, (9, 1), 10), goings)
                self.assertEqual(goings_by(legs, (8, 1), 10), goings)

    def test_it_begins_standing_at_the_post(self):
        self.assertEqual(goings_by(legs_of(0, 10, 0, (3, -1)), (9, 1), 10), [((3, 1), "down")])
        self.assertEqual(goings_by(legs_of(0, 10, 0, (3, 1)), (9, 1), 10), [])

    def test_it_begins_at_the_post_and_comes_back(self):
        self.assertEqual(goings_by(legs_of(1, 10, 2, (2, -2)), (9, 1), 10), [((3, 1), "down")])
        self.assertEqual(goings_by(legs_of(1, 10, -2, (2, 2)), (9, 1), 10), [((3, 1), "up")])

    def test_it_turns_just_beside_the_post(self):
        self.assertEqual(goings_by(legs_of(0, 0, 2, (5 - TINY, -2)), (9, 1), 10), [])
        self.assertEqual(goings_by(legs_of(0, 0, 2, (5 + TINY, -2)), (9, 1), 10), [
            ((5, 1), "up"), (told(5 + 2 * TINY), "down")])

    def test_a_turn_away_from_the_post_tells_nothing(self):
        self.assertEqual(goings_by(legs_of(0, 0, 2, (1, 3), (2, -3), (3, 0)), (9, 1), 10), [])
        self.assertEqual(goings_by(legs_of(0, 20, -2, (1, -3), (2, 3), (3, 0)), (9, 1), 10), [])

    def test_a_last_leg_that_begins_at_until(self):
        legs = legs_of(0, 0, 2, (6, -1))
        self.assertEqual(goings_by(legs, (6, 1), 10), [((5, 1), "up")])
        self.assertEqual(goings_by(legs, (6, 1), 12), [])
        self.assertEqual(goings_by(legs_of(0, 0, 2, (6, 1)), (6, 1), 12), [((6, 1), "up")])

    def test_a_leg_lasts_to_the_next_ones_moment_alone(self):
        legs = legs_of(0, 0, 2, (4, 1))
        self.assertEqual(goings_by(legs, (9, 1), 10), [((6, 1), "up")])
        legs = legs_of(0, 0, 2, (4, 1), (5, 0))
        self.assertEqual(goings_by(legs, (90, 1), 10), [])

    def test_the_list_of_legs_is_unchanged(self):
        legs = legs_of(0, 0, 4, (5, -4), (10, 3))
        ahead = list(legs)
        goings = goings_by(legs, (20, 1), 10)
        self.assertEqual(legs, ahead)
        legs.clear()
        self.assertEqual(len(goings), 3)


class BesideAPlainModel(Checked):
    def place_at(self, legs, moment):
        begun, place, pace = [row for row in legs if Fraction(*row[0]) <= moment][-1]
        return Fraction(*place) + pace * (moment - Fraction(*begun))

    def test_logs_by_chance(self):
        told_in_all = 0
        for run in range(150):
            chance = random.Random(run)
            moment, turns = Fraction(chance.randint(-4, 4)), []
            begun, place = moment, chance.randint(-6, 6)
            for turn in range(chance.randint(0, 6)):
                moment += Fraction(chance.randint(1, 6), chance.choice((1, 2, 3)))
                turns.append((moment, chance.randint(-3, 3)))
            legs = legs_of(begun, place, chance.randint(-3, 3), *turns)
            until = moment + Fraction(chance.choice((0, 1, 5)), chance.choice((1, 2)))
            # Turns are at sixths, so with these paces a post is reached at thirty-sixths.
            moments = [begun + Fraction(number, 36) for number in range(1, int((until - begun) * 36) + 1)]
            beside = [(at, self.place_at(legs, at - TINY), self.place_at(legs, at + TINY)) for at in moments]
            for post in range(-5, 6):
                # One that stands at the post counts as above on either side.
                wanted = [(told(at), "up" if behind >= post else "down") for at, ahead, behind in beside
                          if (ahead >= post) != (behind >= post)]
                self.assertEqual(goings_by(legs, told(until), post), wanted)
                told_in_all += len(wanted)
        self.assertGreater(told_in_all, 300)


if __name__ == "__main__":
    unittest.main()
