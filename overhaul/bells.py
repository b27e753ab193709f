"""Bells: tuples (moment, hind, fore) of two names, and when the first comes up to the second."""

from overhaul.moments import less


def rings_ahead(one, other):
    """Whether a bell stands ahead of another: by moment, then hind, then fore."""
    if one[0] != other[0]:
        return less(one[0], other[0])
    return one[1:] < other[1:]


class Bells:
    """Bells in order, at most one of each two names in their order."""

    def __init__(self):
        self.rows = []

    def put(self, moment, hind, fore):
        """Puts a bell, in the place of an elder one of that pair."""
        self.drop(hind, fore)
        bell = (moment, hind, fore)
        low, high = 0, len(self.rows)
        while low < high:
            middle = (low + high) // 2
            if rings_ahead(self.rows[middle], bell):
                low = middle + 1
            else:
                high = middle
        self.rows.insert(low, bell)

    def drop(self, hind, fore):
        """Takes a pair's bell out; tells whether there was one."""
        kept = [bell for bell in self.rows if bell[1:] != (hind, fore)]
        found = len(kept) < len(self.rows)
        self.rows = kept
        return found

    def first(self):
        """The first bell, None where there is none."""
        return self.rows[0] if self.rows else None

    def take(self):
        """The first bell, which is taken out; None where there is none."""
        return self.rows.pop(0) if self.rows else None

    def told(self):
        """All bells in order."""
        return list(self.rows)
