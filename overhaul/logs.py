"""Logs: the legs of one craft from its joining on."""

from overhaul.errors import NotThere
from overhaul.legs import place_on
from overhaul.moments import last_by, less


class Log:
    """The legs of one craft. Their moments rise, and no two neighbours have one pace."""

    def __init__(self, moment, place, pace):
        self.rows = [(moment, place, pace)]
        self.gone = None

    def turn(self, moment, pace):
        """Gives the craft another pace from a moment on, no earlier than the last leg's."""
        place = place_on(self.rows[-1], moment)
        # A leg that would last no time is no leg.
        if self.rows[-1][0] == moment:
            self.rows.pop()
        if self.rows and self.rows[-1][2] == pace:
            return
        self.rows.append((moment, place, pace))

    def leave(self, moment):
        """Ends the log: from that moment on the craft is not there."""
        self.gone = moment

    def legs(self):
        """All legs, the earliest first."""
        return list(self.rows)

    def left(self):
        """The moment of leaving, None for a craft that has not left."""
        return self.gone

    def there(self, moment):
        """Whether the craft is there at a moment."""
        # A turn at the joining puts another leg of the same moment first.
        joined = self.rows[0][0]
        if less(moment, joined):
            return False
        return self.gone is None or less(moment, self.gone)

    def leg_at(self, moment):
        """The leg that the craft is on at a moment."""
        if not self.there(moment):
            raise NotThere("the craft is not there at that moment")
        # The first leg is no later than any moment at which the craft is there.
        return self.rows[last_by(self.rows, moment)]

    def place(self, moment):
        """The place of the craft at a moment."""
        return place_on(self.leg_at(moment), moment)

    def twin(self):
        """A log alike that goes on by itself."""
        moment, place, pace = self.rows[0]
        other = Log(moment, place, pace)
        other.rows = list(self.rows)
        other.gone = self.gone
        return other
