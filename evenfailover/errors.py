"""The errors of the package; each keeps its argument as an attribute.

The messages are constant: the text of a value may be very long, or not exist (Python
refuses to write out integers of many thousand digits).
"""


class FailoverError(ValueError):
    """The base of all errors of the package."""


class NoNumber(FailoverError):
    """There is nothing with this number."""

    def __init__(self, value):
        FailoverError.__init__(self, "there is nothing with this number")
        self.value = value


class NotPossible(FailoverError):
    """No such table has this number of lists."""

    def __init__(self, count):
        FailoverError.__init__(self, "no such table has this number of lists")
        self.count = count


class TooMany(FailoverError):
    """A table would have more lists than are returned at once."""

    def __init__(self, count):
        FailoverError.__init__(self, "the table would have too many lists")
        self.count = count


class TooShort(FailoverError):
    """A list does not contain enough servers."""

    def __init__(self, order):
        FailoverError.__init__(self, "the list does not contain enough servers")
        self.order = order


class Unbalanced(FailoverError):
    """What arrives at a set is not what leaves it."""

    def __init__(self, members):
        FailoverError.__init__(self, "the counts do not balance at a set")
        self.members = members


class NoCluster(FailoverError):
    """A field of a cluster is not an integer in its range."""

    def __init__(self, field):
        FailoverError.__init__(self, "a field of the cluster is out of range")
        self.field = field


class NotLive(FailoverError):
    """The value is not a live server."""

    def __init__(self, value):
        FailoverError.__init__(self, "the value is not a live server")
        self.value = value


class NotDead(FailoverError):
    """The value is not a server that has failed."""

    def __init__(self, value):
        FailoverError.__init__(self, "the value is not a server that has failed")
        self.value = value


class TooFew(FailoverError):
    """Too few servers would stay alive."""

    def __init__(self, alive):
        FailoverError.__init__(self, "too few servers would stay alive")
        self.alive = alive


class NoUndo(FailoverError):
    """There is no change to undo."""


class NoText(FailoverError):
    """A row of a text is wrong or missing."""

    def __init__(self, row):
        FailoverError.__init__(self, "a row of the text is wrong or missing")
        self.row = row


class NoLine(FailoverError):
    """The value is not a line that the desk knows."""

    def __init__(self, value):
        FailoverError.__init__(self, "the desk does not know this line")
        self.value = value
