"""Legs: tuples (moment, place, pace) of a craft that goes at one pace."""

from overhaul.moments import fraction, less, minus, plus, times

NOUGHT = (0, 1)


def place_on(leg, moment):
    """The place on a leg at any moment, earlier ones than the leg's too."""
    begun, place, pace = leg
    return plus(place, times(minus(moment, begun), pace))


def meeting(one, other):
    """The moment at which two legs are at one place; None for like paces."""
    gain = one[2] - other[2]
    if gain == 0:
        return None
    # Seen from moment nought both legs are straight lines over the same moments.
    gap = minus(place_on(other, NOUGHT), place_on(one, NOUGHT))
    return fraction(gap[0], gap[1] * gain)


def lies_behind(name, leg, other_name, other_leg, moment):
    """Whether the first of two craft lies behind the other at a moment."""
    place = place_on(leg, moment)
    other_place = place_on(other_leg, moment)
    if place != other_place:
        return less(place, other_place)
    if leg[2] != other_leg[2]:
        return leg[2] < other_leg[2]
    return name < other_name
