"""Exact fractions: tuples (top, bottom) in lowest terms, the bottom 1 or greater."""

from overhaul.errors import BadMoment


def shared(one, two):
    """The greatest whole number that divides both; 0 for two noughts."""
    one, two = abs(one), abs(two)
    while two != 0:
        one, two = two, one % two
    return one


def fraction(top, bottom):
    """The fraction of two whole numbers, either of which may be below nought."""
    if bottom == 0:
        raise BadMoment("the bottom of a fraction is nought")
    divisor = shared(top, bottom)
    # Dividing by a number of the bottom's sign leaves the bottom above nought.
    if bottom < 0:
        divisor = -divisor
    return (top // divisor, bottom // divisor)


def plus(one, two):
    """The sum of two fractions."""
    return fraction(one[0] * two[1] + two[0] * one[1], one[1] * two[1])


def minus(one, two):
    """The first fraction less the second."""
    return fraction(one[0] * two[1] - two[0] * one[1], one[1] * two[1])


def times(one, many):
    """A fraction times a whole number."""
    return fraction(one[0] * many, one[1])


def half_way(one, two):
    """The fraction midway between two."""
    both = plus(one, two)
    return fraction(both[0], both[1] * 2)


def less(one, two):
    """Whether the first fraction is less than the second."""
    return one[0] * two[1] < two[0] * one[1]


def in_lowest_terms(pair):
    """Whether a tuple of two whole numbers is a fraction as it is told here."""
    return pair[1] >= 1 and shared(pair[0], pair[1]) == 1


def last_by(rows, moment):
    """The index of the last row whose moment, its first item, is no later; -1 where none is. Their moments rise."""
    at = len(rows) - 1
    while at >= 0 and less(moment, rows[at][0]):
        at -= 1
    return at


def floor_of(one):
    """The greatest whole number that is no greater than the fraction."""
    return one[0] // one[1]
