"""The errors of the package. Each keeps what it was made with, just as it was passed."""


class RoomError(ValueError):
    """Any error of the package."""


class Unfit(RoomError):
    """What was handed in does not fit together, or not to what is there."""


class BadText(RoomError):
    """The value is the text of nothing."""


class BadNet(RoomError):
    """The value is no net; error is what net_error tells of it."""

    def __init__(self, error):
        self.error = error


class Refused(RoomError):
    """The deed can't be done."""

    def __init__(self, deed):
        self.deed = deed


class TooMany(RoomError):
    """There are more than limit."""

    def __init__(self, limit):
        self.limit = limit


class NoNet(RoomError):
    """No net is kept under the name given."""

    def __init__(self, given):
        self.given = given


class Taken(RoomError):
    """A net is kept under the name given already."""

    def __init__(self, given):
        self.given = given


class TooManyEdits(RoomError):
    """As many edits stand as a bench may keep."""


class NothingToUndo(RoomError):
    """No edit stands."""


class NothingToRedo(RoomError):
    """No edit was taken back."""


class NoVersion(RoomError):
    """The version given is none of the bench."""

    def __init__(self, given):
        self.given = given


class BadLog(RoomError):
    """The log tells no edit, or one that can't be done, at place."""

    def __init__(self, place):
        self.place = place
