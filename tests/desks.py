"""What several tests of desks share: desks with deeds done, all that a desk tells, and a plain model of a desk."""

import math
import re
from fractions import Fraction

from checked import told
from lanes import LaneChecked, PlainLane, all_told, refusal_of
from overhaul.desk import Desk

MARKS = ("w", "v", "u", "w1", "w2", "w3", "w4", "w5", "w6", "w7", "none", "W", "")


def desk_of(*deeds):
    """A desk that has done these deeds."""
    desk = Desk()
    for deed in deeds:
        desk.do(deed)
    return desk


def all_desk_told(desk):
    """Everything that a desk tells of itself, of some marks and of each craft that ever was there."""
    lane, journal = desk.lane(), desk.journal()
    joined = [deed[1] for deed in journal if deed[0] == "join"]
    watches = [mark for mark in MARKS if refusal_of(desk.leader, mark) is None]
    moments = sorted({passing[0] for passing in desk.book()} | {(0, 1), lane.clock()})
    return {
        "lane": all_told(lane, ("nobody", *joined)),
        "book": desk.book(),
        "journal": journal,
        "leaders": {mark: desk.leader(mark) for mark in watches},
        "stories": {mark: desk.story(mark) for mark in watches},
        "led": {(mark, moment): desk.led_by(mark, moment) for mark in watches for moment in moments
                if refusal_of(desk.led_by, mark, moment) is None},
        "tallies": {name: desk.tally(name) for name in joined},
        "goings": {(name, post): desk.goings(name, post) for name in joined for post in (-9, 0, 4, 10)},
    }


class DeskChecked(LaneChecked):
    def assert_deed_refused(self, refusal, desk, deed):
        """Refused with that very class by `do` and by a row, and nothing has changed."""
        ahead = all_desk_told(desk)
        self.assert_refused(refusal, desk.do, deed)
        self.assertEqual(all_desk_told(desk), ahead)
        self.assert_refused(refusal, desk.do_all, [deed])
        self.assertEqual(all_desk_told(desk), ahead)


class PlainDesk:
    """The desk of the document once more; its stories are told from the places of the craft alone."""

    def __init__(self):
        self.lane = PlainLane()
        self.book = []
        self.journal = []
        self.watches = {}
        self.deed_moments = []

    def do(self, deed):
        """The name of the refusal, or the list of passings."""
        word, *rest = deed
        if word in ("join", "leave", "turn", "about"):
            refusal, passings = getattr(self.lane, word)(*rest), []
        else:
            refusal, passings = getattr(self, word)(*rest)
        if refusal is not None:
            return refusal
        self.journal.append(deed)
        self.book += passings
        self.deed_moments.append(self.lane.clock)
        return passings

    def go(self, moment):
        top, bottom = moment
        if not 1 <= bottom <= 60 or math.gcd(top, bottom) != 1 or not 0 <= top <= 1000000 * bottom:
            return "BadMoment", []
        if Fraction(top, bottom) < self.lane.clock:
            return "Past", []
        passings = self.lane.passings(Fraction(top, bottom))
        self.lane.clock = Fraction(top, bottom)
        return None, passings

    def watch(self, mark, names):
        if not re.fullmatch("[a-z0-9]{1,8}", mark):
            return "BadName", []
        if mark in self.watches:
            return "Taken", []
        if not set(names) <= set(self.lane.here()):
            return "NoCraft", []
        if len(self.watches) == 6:
            return "Full", []
        self.watches[mark] = (self.lane.clock, names)
        return None, []

    def unwatch(self, mark):
        if mark not in self.watches:
            return "NoWatch", []
        del self.watches[mark]
        return None, []

    def led_by(self, mark, moment):
        there = [name for name in self.lane.order(moment) if name in self.watches[mark][1]]
        return there[-1] if there else None

    def story(self, mark):
        begun = self.watches[mark][0]
        moments = {begun, *self.deed_moments, *[Fraction(*passing[0]) for passing in self.book]}
        rows = []
        for moment in sorted(moment for moment in moments if moment >= begun):
            leader = self.led_by(mark, moment)
            if not rows or rows[-1][1] != leader:
                rows.append((told(moment), leader))
        return rows

    def tally(self, name):
        return ([passing[1] for passing in self.book].count(name), [passing[2] for passing in self.book].count(name))
