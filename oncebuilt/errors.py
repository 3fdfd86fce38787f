"""The errors of the package, one class for each kind of failure."""


class OnceError(ValueError):
    """What was passed is not as described."""


class BadNumber(OnceError):
    """A number is not an integer, or it is outside of its bounds."""


class BadHistory(OnceError):
    """The entry of a history at the index is wrong; the index is None if the history is not a list."""

    def __init__(self, index):
        # The index may be any object, even one that cannot be shown, so the message leaves it out.
        OnceError.__init__(self, "the history has a wrong entry or is not a list")
        self.index = index


class NoMember(LookupError):
    """The number that was passed is not that of a present member."""

    def __init__(self, number):
        # The number may be any object, even one that cannot be shown, so the message leaves it out.
        LookupError.__init__(self, "no present member has this number")
        self.number = number


class Empty(IndexError):
    """A member was to be taken from a collection that has none."""


class Busy(RuntimeError):
    """A collection was used while one of its own callables was running."""


class Torn(RuntimeError):
    """A collection was used whose outer structure is in an unknown state."""


class NotTorn(RuntimeError):
    """A collection was to be mended that is not torn."""
