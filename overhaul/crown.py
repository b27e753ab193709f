"""Crowns: which name of a group leads, and since when."""

from overhaul.errors import NotThere
from overhaul.moments import last_by


class Crown:
    """The leaders of a group. The moments of its story rise, and no two neighbours have one leader."""

    def __init__(self, names, moment, order):
        self.group = names
        self.rows = [(moment, self.foremost(order))]

    def note(self, moment, order):
        """Notes an order at a moment, no earlier than any that was noted."""
        leading = self.foremost(order)
        # Who led for no time did not lead.
        if self.rows[-1][0] == moment:
            self.rows.pop()
        if self.rows and self.rows[-1][1] == leading:
            return
        self.rows.append((moment, leading))

    def leader(self):
        """The name that leads behind the last note, None where there is none."""
        return self.rows[-1][1]

    def story(self):
        """All tuples (moment, leader), the earliest first."""
        return list(self.rows)

    def who(self, moment):
        """The leader at a moment."""
        at = last_by(self.rows, moment)
        if at < 0:
            raise NotThere("a moment ahead of the beginning")
        return self.rows[at][1]

    def twin(self):
        """A crown alike that goes on by itself."""
        other = Crown(self.group, self.rows[0][0], [])
        other.rows = list(self.rows)
        return other

    def foremost(self, order):
        """The last name in an order that is of the group, None where there is none."""
        for name in reversed(order):
            if name in self.group:
                return name
        return None
