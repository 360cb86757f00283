"""The refusals of Agohands, each of its own kind."""


class HandError(ValueError):
    """What every refusal is."""


class TooLong(HandError):
    """It would be longer than may be told."""


class NoWindow(HandError):
    """It may be no window of the web."""


class NotLike(HandError):
    """It does not fit what it would be put beside."""


class NoBeat(HandError):
    """It is no beat, or no number of beats."""


class Late(HandError):
    """The beat that would be come to is too late."""

    def __init__(self, at):
        # The beat may have more figures than Python writes out.
        HandError.__init__(self, "the beat that would be come to is too late")
        self.at = at


class NoWeb(HandError):
    """It is no web."""


class NoHand(HandError):
    """It is no hand of the web."""


class NoState(HandError):
    """It is no state of running hands."""


class NoText(HandError):
    """It is no text of a web."""


class NoRow(HandError):
    """It is no row that can be answered."""
