"""What several tests of lanes share: lanes with craft, all that a lane tells, and a plain model of a lane."""

import re
from fractions import Fraction

from checked import Checked, told
from overhaul.errors import WaterError
from overhaul.lane import Lane


def lane_of(*craft):
    """A lane that these (name, place, pace) have joined."""
    lane = Lane()
    for name, place, pace in craft:
        lane.join(name, place, pace)
    return lane


def refusal_of(action, *arguments):
    """The class of the refusal that a call raises, None if it raises none."""
    try:
        action(*arguments)
    except WaterError as refusal:
        return type(refusal)
    return None


def all_told(lane, names=("a", "b", "c", "d", "e", "f", "pike", "carp", "nobody", "A", "")):
    """Everything that a lane tells of itself and of some names."""
    order = lane.order()
    every = sorted(set(names) | set(order))
    known = [name for name in every if refusal_of(lane.history, name) is None]
    begun = {leg[0] for name in known for leg in lane.history(name)} | {lane.clock(), (0, 1)}
    return {
        "clock": lane.clock(),
        "order": order,
        "bells": lane.bells(),
        "closest": lane.closest(),
        "counts": [lane.count_from(place) for place in (-1000, -1, 0, 1, 10, 1000)],
        "ranks": {name: lane.rank(name) for name in order},
        "names": [lane.name_at(rank) for rank in range(-2, 15)],
        "places": {name: lane.place(name) for name in order},
        "meets": {(name, other): lane.meets(name, other) for name in order for other in order},
        "unknown": {name: refusal_of(lane.rank, name) for name in every},
        "histories": {name: lane.history(name) for name in known},
        "left": {name: lane.left(name) for name in known},
        "orders": {moment: lane.order_at(moment) for moment in begun},
        "foretold": lane.foretold((1000000, 1)),
    }


class LaneChecked(Checked):
    def assert_refused(self, refusal, action, *arguments):
        """Refused with that very class, none above or below it."""
        self.assertIs(refusal_of(action, *arguments), refusal)

    def assert_order(self, lane, names):
        """The order, and with it rank and name_at, which tell the same."""
        self.assertEqual(lane.order(), names)
        self.assertEqual([lane.name_at(rank) for rank in range(len(names))], names)
        self.assertEqual([lane.rank(name) for name in names], list(range(len(names))))
        self.assertEqual(lane.order_at(lane.clock()), names)


class PlainLane:
    """The lane of the document once more, with Python's own fractions and no thought of speed."""

    def __init__(self):
        self.clock = Fraction(0)
        self.joined = {}
        self.paces = {}
        self.left = {}

    def here(self):
        return [name for name in self.joined if name not in self.left]

    def there(self, name, moment):
        begun = self.joined[name][0] <= moment
        return begun and (name not in self.left or moment < self.left[name])

    def pace(self, name, moment):
        return self.paces[name][max(begun for begun in self.paces[name] if begun <= moment)]

    def place(self, name, moment):
        begun, place = self.joined[name]
        turns = sorted(turn for turn in self.paces[name] if turn < moment)
        for turn, until in zip(turns, turns[1:] + [moment]):
            place += self.paces[name][turn] * (until - turn)
        return place

    def order(self, moment):
        there = [name for name in self.joined if self.there(name, moment)]
        return sorted(there, key=lambda name: (self.place(name, moment), self.pace(name, moment), name))

    def history(self, name):
        legs = []
        for begun in sorted(self.paces[name]):
            if not legs or legs[-1][2] != self.paces[name][begun]:
                legs.append((told(begun), told(self.place(name, begun)), self.paces[name][begun]))
        return legs

    def meets(self, name, other):
        gain = self.pace(name, self.clock) - self.pace(other, self.clock)
        gap = self.place(other, self.clock) - self.place(name, self.clock)
        return self.clock + gap / gain if gain != 0 and gap / gain > 0 else None

    def passings(self, moment):
        rows = []
        for fast in self.here():
            for slow in self.here():
                met = self.meets(fast, slow)
                faster = self.pace(fast, self.clock) > self.pace(slow, self.clock)
                if faster and met is not None and met <= moment:
                    rows.append((met, fast, slow))
        return [(told(met), fast, slow) for met, fast, slow in sorted(rows)]

    def bells(self):
        order = self.order(self.clock)
        rows = [(self.meets(hind, fore), hind, fore) for hind, fore in zip(order, order[1:])
                if self.pace(hind, self.clock) > self.pace(fore, self.clock)]
        return [(told(met), hind, fore) for met, hind, fore in sorted(rows)]

    def closest(self):
        order = self.order(self.clock)
        places = [self.place(name, self.clock) for name in order]
        rows = [(places[at + 1] - places[at], at) for at in range(len(order) - 1)]
        if not rows:
            return None
        gap, at = min(rows)
        return (told(gap), order[at], order[at + 1])

    def join(self, name, place, pace):
        if not re.fullmatch("[a-z0-9]{1,8}", name):
            return "BadName"
        if not (-1000000 <= place <= 1000000 and -1000 <= pace <= 1000):
            return "TooFar"
        if name in self.joined:
            return "Taken"
        if len(self.here()) == 12:
            return "Full"
        self.joined[name] = (self.clock, Fraction(place))
        self.paces[name] = {self.clock: pace}
        return None

    def leave(self, name):
        if name not in self.here():
            return "NoCraft"
        self.left[name] = self.clock
        return None

    def turn(self, name, pace):
        if name not in self.here():
            return "NoCraft"
        if not -1000 <= pace <= 1000:
            return "TooFar"
        self.paces[name][self.clock] = pace
        return None

    def about(self):
        for name in self.here():
            self.paces[name][self.clock] = -self.pace(name, self.clock)
