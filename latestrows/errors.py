"""The errors of the program.

Each error derives from its base class alone, so that it is an instance of no
other error class of the program.
"""


class LatestError(ValueError):
    """A value is not as required."""


class StateError(LookupError):
    """What is asked for is not there."""


class RuleError(RuntimeError):
    """A rule of a setting would be broken, or lacks what it needs."""


class LimitError(ArithmeticError):
    """Something is beyond a limit."""


class InvalidName(LatestError):
    """The value is not a name."""

    def __init__(self, value):
        self.value = value


class InvalidTime(LatestError):
    """The value is not a time of a table."""

    def __init__(self, value):
        self.value = value


class InvalidNumber(LatestError):
    """The value is not an integer that can stand here."""

    def __init__(self, value):
        self.value = value


class InvalidWithin(LatestError):
    """The value is not a bound of a look."""

    def __init__(self, value):
        self.value = value


class InvalidStrict(LatestError):
    """The value is neither True nor False."""

    def __init__(self, value):
        self.value = value


class InvalidText(LatestError):
    """The value is not a text of what is to be read."""

    def __init__(self, value):
        self.value = value


class InvalidGrid(LatestError):
    """The value is not a grid."""

    def __init__(self, value):
        self.value = value


class NotATime(LatestError):
    """The value is not a time of a reader."""

    def __init__(self, value):
        self.value = value


class NotALook(LatestError):
    """The value is not a look."""

    def __init__(self, value):
        self.value = value


class NotAReader(LatestError):
    """The value is not a reader."""

    def __init__(self, value):
        self.value = value


class NotATable(LatestError):
    """The value is not a table."""

    def __init__(self, value):
        self.value = value


class NotASetting(LatestError):
    """The value is not a setting."""

    def __init__(self, value):
        self.value = value


class NotAPlan(LatestError):
    """The value is not a plan."""

    def __init__(self, value):
        self.value = value


class NotAStore(LatestError):
    """The value is not a store."""

    def __init__(self, value):
        self.value = value


class InvalidRows(LatestError):
    """The element at the index is not a row that can stand here."""

    def __init__(self, index):
        self.index = index


class InvalidApart(LatestError):
    """The element at the index is not a distance of a feed."""

    def __init__(self, index):
        self.index = index


class InvalidFeeds(LatestError):
    """The element at the index is not a feed that can stand here."""

    def __init__(self, index):
        self.index = index


class InvalidColumns(LatestError):
    """The element at the index is not a column that can stand here."""

    def __init__(self, index):
        self.index = index


class InvalidDeed(LatestError):
    """The element at the index is not a deed."""

    def __init__(self, index):
        self.index = index


class MissingRow(StateError):
    """The table has no row of the feed at the time of this pair."""

    def __init__(self, value):
        self.value = value


class NoSuchPart(StateError):
    """The reader has no part with this index."""

    def __init__(self, value):
        self.value = value


class NeverRead(StateError):
    """No outcome is a row of this feed."""

    def __init__(self, value):
        self.value = value


class NeverChanged(StateError):
    """No row of this feed changes an answer."""

    def __init__(self, value):
        self.value = value


class NothingToUndo(StateError):
    """No deed is left that could be taken back."""


class NotKept(RuleError):
    """The table does not keep the setting."""

    def __init__(self, value):
        self.value = value


class NoGrid(RuleError):
    """There are grid times, but there is no grid."""


class TooMany(LimitError):
    """There would be more than the limit allows."""

    def __init__(self, limit):
        self.limit = limit
