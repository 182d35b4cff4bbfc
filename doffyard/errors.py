"""The refusals: one class for each kind, all under DoffError and none under another one."""


class DoffError(ValueError):
    """Any refusal."""


class NoYard(DoffError):
    """What should be a yard is none."""


class NoFrame(DoffError):
    """What should be the number of a frame is none."""


class NoHand(DoffError):
    """What should be the number of a hand is none, or that hand cannot go now."""


class NoStray(DoffError):
    """What should be the number of a stray is none, or the stray is there already."""


class NoText(DoffError):
    """What should be the text of a yard is none; row is the number of the first row that is wrong."""

    def __init__(self, row):
        DoffError.__init__(self, f"row {row} is not that of a yard's text")
        self.row = row


class NoMoment(DoffError):
    """What should be a moment, a beat or a stretch of beats is none."""


class NoWait(DoffError):
    """What should be a number of beats to wait is none."""


class NoMany(DoffError):
    """What should be a count of hands or doffers is none."""


class NoMinds(DoffError):
    """What should be the frames that a hand minds are none."""


class NoSpun(DoffError):
    """What should be a SPUN that is yet to come is none."""


class NoThread(DoffError):
    """What should be the number of a thread is none."""


class TooMany(DoffError):
    """There are sixteen already."""


class NoStrike(DoffError):
    """There is no deed left to strike."""


class NoPlain(DoffError):
    """The yard is not plain."""


class NoSmall(DoffError):
    """What should be a small yard is none."""


class NoStory(DoffError):
    """What should be a story is none."""


class NoCalls(DoffError):
    """What should be calls are none."""


class NoDoffs(DoffError):
    """What should be doffings are none."""


class NoRow(DoffError):
    """What is said to the desk is none of its rows."""
