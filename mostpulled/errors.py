"""The errors that the package raises, each with what it was made of.

None of them writes its field into a message: any value must do as a field,
also one that cannot be written as text.
"""


class PullError(ValueError):
    """Any error of the package."""


class Wrong(PullError):
    """The argument at this place is not as described."""

    def __init__(self, place):
        self.place = place


class NotAllowed(PullError):
    """The standing is not allowed; at is the index of a stop or bar that it breaks."""

    def __init__(self, at):
        self.at = at


class NoneAllowed(PullError):
    """No standing of the board is allowed."""


class BadStep(PullError):
    """The item of this index is no part of a plan, or leads to a standing that is not allowed."""

    def __init__(self, at):
        self.at = at


class TooMany(PullError):
    """There are, or there would be, more than this limit."""

    def __init__(self, limit):
        self.limit = limit


class HasStop(PullError):
    """The board has a stop or bar, of this index."""

    def __init__(self, at):
        self.at = at


class NotRest(PullError):
    """The standing is not at rest."""


class NotWish(PullError):
    """The term of this index is not a wish."""

    def __init__(self, at):
        self.at = at


class TooFar(PullError):
    """An end of a term would not be a value."""


class NoDeed(PullError):
    """The thing is not a deed."""


class Taken(PullError):
    """A term has this name."""

    def __init__(self, name):
        self.name = name


class Unknown(PullError):
    """No term has this name."""

    def __init__(self, name):
        self.name = name


class Broken(PullError):
    """The deed or line of this index cannot be done."""

    def __init__(self, at):
        self.at = at


class Nothing(PullError):
    """There is no deed to undo, or none to do again."""


class NoText(PullError):
    """The thing is not a text of what was to be read."""


class NoCommand(PullError):
    """The line is not a command."""
