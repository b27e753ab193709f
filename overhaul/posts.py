"""Posts: at which moments a craft goes by a whole place, and to which side."""

from overhaul.legs import NOUGHT, meeting, place_on
from overhaul.moments import less


def above(leg, moment, post):
    """Whether a craft on a leg is above a post just behind a moment."""
    place = place_on(leg, moment)
    if place == (post, 1):
        return leg[2] >= 0
    return less((post, 1), place)


def came_from_above(leg, moment, post):
    """Whether a craft on a leg is above a post just ahead of a moment."""
    # Looking back from the moment, the craft goes the other way.
    back = (moment, place_on(leg, moment), -leg[2])
    return above(back, moment, post)


def going(leg, moment, post):
    """The going by at a moment from which a craft is on a leg."""
    return (moment, "up" if above(leg, moment, post) else "down")


def goings_by(legs, until, post):
    """The goings by of a craft along its legs, the last of which goes on to a moment."""
    last = legs[-1]
    # At the last moment the craft goes on as if a leg of the same pace began there.
    following = legs[1:] + [(until, place_on(last, until), last[2])]
    goings = []
    for leg, next_leg in zip(legs, following):
        begins, ends = leg[0], next_leg[0]
        reached = meeting(leg, (NOUGHT, (post, 1), 0))
        if reached is not None and less(begins, reached) and less(reached, ends):
            goings.append(going(leg, reached, post))
        # A last leg that begins at the last moment leads nowhere.
        if less(begins, ends) and came_from_above(leg, ends, post) != above(next_leg, ends, post):
            goings.append(going(next_leg, ends, post))
    return goings
