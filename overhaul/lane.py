"""The lane: a clock, the craft that are there in their order, and the logs of all that ever were."""

from overhaul.bells import Bells
from overhaul.errors import BadMoment, BadName, Full, NoCraft, NotThere, Past, Taken, TooFar
from overhaul.legs import NOUGHT, lies_behind, meeting, place_on
from overhaul.logs import Log
from overhaul.moments import in_lowest_terms, less, minus
from overhaul.names import good_name

FARTHEST = 1000000
FASTEST = 1000
MOST = 12
LATEST = 1000000
FINEST = 60


def good_moment(moment):
    """Whether a pair of whole numbers is a moment to which a clock may ever go."""
    top, bottom = moment
    if bottom > FINEST or not in_lowest_terms(moment):
        return False
    return 0 <= top <= LATEST * bottom


def in_order(legs, moment):
    """The names of a dict of legs as the craft lie at a moment, the hindmost first."""
    names = []
    for name in legs:
        at = len(names)
        while at > 0 and lies_behind(name, legs[name], names[at - 1], legs[names[at - 1]], moment):
            at -= 1
        names.insert(at, name)
    return names


class Lane:
    """Craft on one water."""

    def __init__(self):
        self.now = NOUGHT
        self.logs = {}
        # The names of those that are there, the hindmost first.
        self.row = []

    def join(self, name, place, pace):
        """A craft joins at a whole place at the clock's moment."""
        if not good_name(name):
            raise BadName("no good name")
        if abs(place) > FARTHEST or abs(pace) > FASTEST:
            raise TooFar("a place or a pace out of bounds")
        if name in self.logs:
            raise Taken("a craft of that name is or was there")
        if len(self.row) >= MOST:
            raise Full("no room for one more craft")
        self.logs[name] = Log(self.now, (place, 1), pace)
        self.row.append(name)
        self.settle()

    def leave(self, name):
        """A craft leaves at the clock's moment, for good."""
        self.must_be_there(name)
        self.logs[name].leave(self.now)
        self.row.remove(name)

    def turn(self, name, pace):
        """Gives a craft another pace from the clock's moment on."""
        self.must_be_there(name)
        if abs(pace) > FASTEST:
            raise TooFar("a pace out of bounds")
        self.logs[name].turn(self.now, pace)
        self.settle()

    def about(self):
        """Turns each craft that is there to its own pace with the sign turned."""
        for name in self.row:
            pace = self.leg_of(name)[2]
            self.logs[name].turn(self.now, -pace)
        self.settle()

    def go_to(self, moment):
        """The clock goes to a moment; tells the passings up to it."""
        passings = self.foretold(moment)
        self.now = moment
        self.settle()
        return passings

    def foretold(self, moment):
        """The passings that going to a moment would tell."""
        if not good_moment(moment):
            raise BadMoment("no fraction in lowest terms, or a moment out of bounds")
        if less(moment, self.now):
            raise Past("a moment earlier than the clock")
        # Passings stand in the order of bells, and each pair passes once at most.
        passings = Bells()
        for at, hind in enumerate(self.row):
            for fore in self.row[at + 1:]:
                met = self.meets(hind, fore)
                if met is not None and not less(moment, met):
                    passings.put(met, hind, fore)
        return passings.told()

    def clock(self):
        """The clock's moment."""
        return self.now

    def order(self):
        """The names of those that are there, the hindmost first."""
        return list(self.row)

    def bells(self):
        """The bells of neighbours that will meet if nobody turns."""
        ringing = Bells()
        for hind, fore in zip(self.row, self.row[1:]):
            # In the order the hinder one comes up later than now just if its pace is greater.
            met = self.meets(hind, fore)
            if met is not None:
                ringing.put(met, hind, fore)
        return ringing.told()

    def rank(self, name):
        """The place of a craft in the order, counted from 0."""
        self.must_be_there(name)
        return self.row.index(name)

    def name_at(self, rank):
        """The name at a place in the order, None where there is none."""
        return self.row[rank] if 0 <= rank < len(self.row) else None

    def place(self, name):
        """The place of a craft at the clock's moment."""
        return place_on(self.leg_of(name), self.now)

    def meets(self, name, other):
        """The moment later than the clock's at which two craft are at one place, or None."""
        met = meeting(self.leg_of(name), self.leg_of(other))
        return met if met is not None and less(self.now, met) else None

    def closest(self):
        """The least gap of two neighbours and the two, None for fewer than two craft."""
        best = None
        for hind, fore in zip(self.row, self.row[1:]):
            gap = minus(self.place(fore), self.place(hind))
            # Only a lesser gap comes in its place: of several alike the hindmost stays.
            if best is None or less(gap, best[0]):
                best = (gap, hind, fore)
        return best

    def count_from(self, place):
        """How many craft are at a whole place or at greater ones."""
        return len([name for name in self.row if not less(self.place(name), (place, 1))])

    def history(self, name):
        """The legs of a craft that is or was there."""
        return self.log_of(name).legs()

    def left(self, name):
        """The moment at which a craft left, None for one that is there."""
        return self.log_of(name).left()

    def place_at(self, name, moment):
        """The place of a craft at a moment no later than the clock."""
        log = self.log_of(name)
        if less(self.now, moment):
            raise NotThere("a moment later than the clock")
        return log.place(moment)

    def order_at(self, moment):
        """The names of those that are there at a moment from nought to the clock, the hindmost first."""
        if less(moment, NOUGHT) or less(self.now, moment):
            raise NotThere("a moment ahead of nought or later than the clock")
        legs = {name: self.logs[name].leg_at(moment) for name in self.logs if self.logs[name].there(moment)}
        return in_order(legs, moment)

    def twin(self):
        """A lane alike that goes on by itself."""
        other = Lane()
        other.now = self.now
        other.logs = {name: self.logs[name].twin() for name in self.logs}
        other.row = list(self.row)
        return other

    def log_of(self, name):
        """The log of a craft that is or was there."""
        if name not in self.logs:
            raise NoCraft("no craft was ever so called")
        return self.logs[name]

    def must_be_there(self, name):
        """Refuses a name that is nobody's there."""
        if name not in self.row:
            raise NoCraft("nobody there is so called")

    def leg_of(self, name):
        """The leg that a craft that is there is on at the clock's moment."""
        self.must_be_there(name)
        return self.logs[name].leg_at(self.now)

    def settle(self):
        """Puts those that are there in their order at the clock's moment."""
        self.row = in_order({name: self.leg_of(name) for name in self.row}, self.now)
