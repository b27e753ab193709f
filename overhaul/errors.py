"""The refusals of the program."""


class WaterError(ValueError):
    """Any refusal."""


class BadName(WaterError):
    """A text that is no good name."""


class Taken(WaterError):
    """A name or a mark that is given already."""


class Full(WaterError):
    """No room for one more."""


class NoCraft(WaterError):
    """A name that is nobody's."""


class TooFar(WaterError):
    """A place or a pace out of bounds."""


class BadMoment(WaterError):
    """No fraction, or a moment out of bounds."""


class Past(WaterError):
    """A moment earlier than the clock."""


class NotThere(WaterError):
    """A moment at which nothing is there to be told."""


class NoWatch(WaterError):
    """A mark that no watch has."""


class NoTale(WaterError):
    """A text that tells no deed or no desk."""
