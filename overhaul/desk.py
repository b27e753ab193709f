"""The desk: a lane, the book of its passings, the journal of its deeds, and the watches over who leads."""

from overhaul.crown import Crown
from overhaul.errors import BadName, Full, NoCraft, NotThere, NoWatch, Taken
from overhaul.lane import Lane
from overhaul.moments import less
from overhaul.names import good_name
from overhaul.posts import goings_by

MOST_WATCHES = 6


class Desk:
    """A lane that is kept by deeds, which are tuples."""

    def __init__(self):
        self.water = Lane()
        self.passings = []
        self.deeds = []
        # The crowns of the watches by their marks.
        self.crowns = {}

    def do(self, deed):
        """Does one deed; tells its passings."""
        # A deed that is refused is refused here, where nothing has changed yet.
        passings = self.carry_out(deed)
        self.deeds.append(deed)
        self.passings.extend(passings)
        self.note_all(passings)
        return passings

    def do_all(self, deeds):
        """Does a row of deeds wholly or not at all; tells all their passings."""
        # The row is tried on a twin, so that a refusal leaves this desk as it stood.
        trial = self.twin()
        passings = []
        for deed in deeds:
            passings.extend(trial.do(deed))
        self.water = trial.water
        self.passings = trial.passings
        self.deeds = trial.deeds
        self.crowns = trial.crowns
        return passings

    def lane(self):
        """A twin of the lane."""
        return self.water.twin()

    def book(self):
        """All passings told so far."""
        return list(self.passings)

    def journal(self):
        """All deeds done so far."""
        return list(self.deeds)

    def twin(self):
        """A desk alike that goes on by itself."""
        other = Desk()
        other.water = self.water.twin()
        other.passings = list(self.passings)
        other.deeds = list(self.deeds)
        other.crowns = {mark: self.crowns[mark].twin() for mark in self.crowns}
        return other

    def leader(self, mark):
        """The leader of a watch at the clock's moment, None where there is none."""
        return self.crown_of(mark).leader()

    def story(self, mark):
        """The leaders of a watch from its beginning on, tuples (moment, leader)."""
        return self.crown_of(mark).story()

    def led_by(self, mark, moment):
        """The leader of a watch at a moment from its beginning to the clock."""
        crown = self.crown_of(mark)
        if less(self.water.clock(), moment):
            raise NotThere("a moment later than the clock")
        return crown.who(moment)

    def tally(self, name):
        """How often a craft stands in the book as the fast one and as the slow one."""
        self.water.log_of(name)
        fast = len([passing for passing in self.passings if passing[1] == name])
        slow = len([passing for passing in self.passings if passing[2] == name])
        return (fast, slow)

    def goings(self, name, post):
        """The goings by of a craft at a post, up to the clock or to its leaving."""
        left = self.water.left(name)
        until = self.water.clock() if left is None else left
        return goings_by(self.water.history(name), until, post)

    def carry_out(self, deed):
        """What a deed does but for book, journal and stories; tells its passings."""
        word = deed[0]
        if word == "go":
            return self.water.go_to(deed[1])
        if word == "join":
            self.water.join(deed[1], deed[2], deed[3])
        elif word == "leave":
            self.water.leave(deed[1])
        elif word == "turn":
            self.water.turn(deed[1], deed[2])
        elif word == "about":
            self.water.about()
        elif word == "watch":
            self.watch(deed[1], deed[2])
        else:
            self.unwatch(deed[1])
        return []

    def watch(self, mark, names):
        """Begins a watch over a group of craft that are there."""
        if not good_name(mark):
            raise BadName("no good name for a watch")
        if mark in self.crowns:
            raise Taken("a watch has that mark")
        order = self.water.order()
        if not all(name in order for name in names):
            raise NoCraft("a name of the group is nobody's there")
        if len(self.crowns) >= MOST_WATCHES:
            raise Full("no room for one more watch")
        self.crowns[mark] = Crown(names, self.water.clock(), order)

    def unwatch(self, mark):
        """Ends a watch."""
        self.crown_of(mark)
        del self.crowns[mark]

    def crown_of(self, mark):
        """The crown of a watch."""
        if mark not in self.crowns:
            raise NoWatch("no watch has that mark")
        return self.crowns[mark]

    def note_all(self, passings):
        """Every watch notes the order at each passing, and as it is now."""
        # Within a going the order changes at passings alone.
        rows = [(passing[0], self.water.order_at(passing[0])) for passing in passings]
        rows.append((self.water.clock(), self.water.order()))
        for crown in self.crowns.values():
            for moment, order in rows:
                crown.note(moment, order)
