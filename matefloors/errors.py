"""The refusals that the program makes."""


class FloorError(ValueError):
    """Any refusal."""


class NoRoot(FloorError):
    """What was handed in is no root."""


class NoNumber(FloorError):
    """What was handed in is no number, or not one as it is wanted there."""


class NoLaying(FloorError):
    """What was handed in is no laying."""


class NoTile(FloorError):
    """What was handed in is no tile's place."""


class NoFit(FloorError):
    """Things that were handed in don't go together."""


class NoKinds(FloorError):
    """What was handed in is no tuple of kinds."""


class NoPlan(FloorError):
    """What was handed in is no plan."""


class NoSpot(FloorError):
    """What was handed in is no spot of the floor."""


class NoNet(FloorError):
    """What was handed in is no net."""


class NoText(FloorError):
    """A text is not written as the document says."""


class NoSaying(FloorError):
    """A row is none that a desk knows."""


class NoName(FloorError):
    """Nothing stands by the letter or name."""


class TooMany(FloorError):
    """There would be more things than the document bounds."""
