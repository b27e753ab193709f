"""Points 1, 17 and 18: twins of lanes, refused deeds, and lanes beside a plain model of them."""

import random
import unittest
from fractions import Fraction

from checked import told
from lanes import LaneChecked, PlainLane, all_told, lane_of, refusal_of
from overhaul.errors import BadMoment, BadName, Full, NoCraft, NotThere, Past, Taken, TooFar
from overhaul.lane import Lane

DEEDS = (
    lambda lane: lane.join("f", 0, 1),
    lambda lane: lane.leave("a"),
    lambda lane: lane.turn("b", 9),
    lambda lane: lane.turn("c", 4),
    lambda lane: lane.about(),
    lambda lane: lane.go_to((9, 1)),
)


def busy_lane():
    lane = lane_of(("a", 0, 5), ("b", 10, 2), ("c", 12, 2), ("d", 11, 0))
    lane.go_to((5, 2))
    lane.turn("c", 3)
    lane.leave("d")
    lane.join("e", 4, -1)
    return lane


class Twins(LaneChecked):
    def test_a_twin_is_alike(self):
        for lane in (Lane(), busy_lane()):
            twin = lane.twin()
            self.assertIs(type(twin), Lane)
            self.assertIsNot(twin, lane)
            self.assertEqual(all_told(twin), all_told(lane))

    def test_a_twin_goes_on_alike(self):
        lane = busy_lane()
        twin = lane.twin()
        for deed in DEEDS:
            self.assertEqual(deed(lane), deed(twin))
            self.assertEqual(all_told(twin), all_told(lane))
        self.assert_refused(Taken, twin.join, "d", 0, 0)

    def test_neither_changes_the_other(self):
        for deed in DEEDS:
            lane = busy_lane()
            twin = lane.twin()
            ahead = all_told(lane)
            deed(twin)
            self.assertEqual(all_told(lane), ahead)
            self.assertNotEqual(all_told(twin), ahead)
            lane = busy_lane()
            twin = lane.twin()
            deed(lane)
            self.assertEqual(all_told(twin), ahead)
            self.assertNotEqual(all_told(lane), ahead)

    def test_a_twin_of_an_empty_lane(self):
        lane = Lane()
        twin = lane.twin()
        twin.join("a", 0, 1)
        self.assertEqual(lane.order(), [])
        lane.join("a", 5, 5)
        self.assertEqual(twin.history("a"), [((0, 1), (0, 1), 1)])

    def test_two_lanes_apart(self):
        one, other = Lane(), Lane()
        one.join("a", 0, 1)
        one.go_to((1, 1))
        self.assertEqual(all_told(other), all_told(Lane()))

    def test_told_lists_of_either_are_the_askers_own(self):
        lane = busy_lane()
        twin = lane.twin()
        ahead = all_told(lane)
        for one in (lane, twin):
            for rows in (one.order(), one.bells(), one.history("c"), one.order_at((1, 1)), one.foretold((9, 1))):
                self.assertGreater(len(rows), 0)
                rows.clear()
            one.history("a").append("more")
            one.order().reverse()
        self.assertEqual(all_told(lane), ahead)
        self.assertEqual(all_told(twin), ahead)


class RefusedDeeds(LaneChecked):
    def test_a_refused_deed_of_each_kind_changes_nothing(self):
        lane = busy_lane()
        for number in range(8):
            lane.join(f"n{number}", number, number)
        self.assertEqual(len(lane.order()), 12)
        ahead = all_told(lane)
        for refusal, action, *arguments in (
            (BadName, lane.join, "A", 0, 0), (TooFar, lane.join, "f", 1000001, 0), (TooFar, lane.join, "f", 0, -1001),
            (Taken, lane.join, "a", 0, 0), (Taken, lane.join, "d", 0, 0), (Full, lane.join, "f", 0, 0),
            (NoCraft, lane.leave, "d"), (NoCraft, lane.leave, "f"), (NoCraft, lane.leave, ""),
            (NoCraft, lane.turn, "d", 0), (NoCraft, lane.turn, "f", 1001), (TooFar, lane.turn, "a", 1001),
            (BadMoment, lane.go_to, (1, 61)), (BadMoment, lane.go_to, (4, 2)), (Past, lane.go_to, (1, 1)),
            (BadMoment, lane.foretold, (-1, 1)), (Past, lane.foretold, (0, 1)),
            (NoCraft, lane.rank, "d"), (NoCraft, lane.place, "f"), (NoCraft, lane.meets, "a", "d"),
            (NoCraft, lane.history, "f"), (NoCraft, lane.left, "A"), (NotThere, lane.place_at, "d", (5, 2)),
            (NotThere, lane.order_at, (3, 1)),
        ):
            with self.subTest(action=action.__name__, arguments=arguments):
                self.assert_refused(refusal, action, *arguments)
                self.assertEqual(all_told(lane), ahead)


class BesideAPlainModel(LaneChecked):
    def check(self, lane, plain, moments):
        here = plain.order(plain.clock)
        self.assertEqual(lane.clock(), told(plain.clock))
        self.assert_order(lane, here)
        self.assertEqual(lane.bells(), plain.bells())
        self.assertEqual(lane.closest(), plain.closest())
        for name in here:
            self.assertEqual(lane.place(name), told(plain.place(name, plain.clock)))
            for other in here:
                met = plain.meets(name, other)
                self.assertEqual(lane.meets(name, other), None if met is None else told(met))
        for place in range(-12, 13, 3):
            beyond = [name for name in here if plain.place(name, plain.clock) >= place]
            self.assertEqual(lane.count_from(place), len(beyond))
        for name in plain.joined:
            self.assertEqual(lane.history(name), plain.history(name))
            self.assertEqual(lane.left(name), told(plain.left[name]) if name in plain.left else None)
        for moment in moments:
            inside = 0 <= moment <= plain.clock
            self.assertIs(refusal_of(lane.order_at, told(moment)), None if inside else NotThere)
            if inside:
                self.assertEqual(lane.order_at(told(moment)), plain.order(moment))
            for name in plain.joined:
                there = inside and plain.there(name, moment)
                self.assertIs(refusal_of(lane.place_at, name, told(moment)), None if there else NotThere)
                if there:
                    self.assertEqual(lane.place_at(name, told(moment)), told(plain.place(name, moment)))

    def do_one(self, chance, lane, plain):
        """One deed by chance, or a refused one, in the lane and in its model."""
        name = chance.choice(("a", "b", "c", "d", "e", "f", "g", "h", "aa", "0", "A"))
        place, pace = chance.randint(-8, 8), chance.choice((-3, -2, -1, 0, 1, 2, 3, 3, 1001))
        act = chance.choice(("join", "join", "join", "leave", "turn", "turn", "about", "go", "go", "go"))
        if act == "go":
            moment = plain.clock + Fraction(chance.randint(0, 6), chance.choice((1, 2, 3, 4, 5, 6)))
            if moment.denominator > 60:
                moment = Fraction(int(plain.clock) + 1)
            passings = plain.passings(moment)
            self.assertEqual(lane.foretold(told(moment)), passings)
            self.assertEqual(lane.go_to(told(moment)), passings)
            plain.clock = moment
            return
        calls = {"join": (name, place, pace), "leave": (name,), "turn": (name, pace), "about": ()}
        refusal = refusal_of(getattr(lane, act), *calls[act])
        self.assertEqual(refusal and refusal.__name__, getattr(plain, act)(*calls[act]))

    def test_rows_of_deeds_by_chance(self):
        for run in range(120):
            chance = random.Random(run)
            lane, plain = Lane(), PlainLane()
            seen = [Fraction(-1), Fraction(0)]
            for deed in range(25):
                self.do_one(chance, lane, plain)
                seen.append(plain.clock)
                # Moments of deeds, one between them, and one later than the clock.
                past = chance.sample(seen, 2) + [plain.clock * Fraction(chance.randint(0, 11), 10), plain.clock + 1]
                self.check(lane, plain, past)


if __name__ == "__main__":
    unittest.main()
