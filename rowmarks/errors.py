"""All errors of the package.

The messages are fixed texts, because a value of any kind may have none.
"""


class MarkError(ValueError):
    """What every error of the package is."""


class BadMode(MarkError):
    """A value that is no mode."""

    def __init__(self, value):
        super().__init__("not a mode")
        self.value = value


class BadName(MarkError):
    """A value that is no name of a row."""

    def __init__(self, value):
        super().__init__("not the name of a row")
        self.value = value


class BadValue(MarkError):
    """A value that no row can have."""

    def __init__(self, value):
        super().__init__("not a value of a row")
        self.value = value


class BadValues(MarkError):
    """A value that tells no rows of a store."""

    def __init__(self, value):
        super().__init__("not the rows of a store")
        self.value = value


class BadMoment(MarkError):
    """A value that is no moment that can be asked for."""

    def __init__(self, value):
        super().__init__("not a moment in reach")
        self.value = value


class BadRules(MarkError):
    """Seven values that are no table of rules."""

    def __init__(self, value):
        super().__init__("not a table of rules")
        self.value = value


class BadText(MarkError):
    """A text that is refused, with its first wrong line."""

    def __init__(self, line):
        super().__init__("a wrong line")
        self.line = line


class Impossible(MarkError):
    """What is no history, with its first refused operation."""

    def __init__(self, operation):
        super().__init__("not a history")
        self.operation = operation


class UnknownTransaction(MarkError):
    """A value that is the number of no transaction."""

    def __init__(self, value):
        super().__init__("no such transaction")
        self.value = value


class UnknownPart(MarkError):
    """A value that is the number of no part."""

    def __init__(self, value):
        super().__init__("no such part")
        self.value = value


class UnknownSet(MarkError):
    """A value that is the number of no set."""

    def __init__(self, value):
        super().__init__("no such set")
        self.value = value


class UnknownVersion(MarkError):
    """A value that is the number of no version."""

    def __init__(self, value):
        super().__init__("no such version")
        self.value = value


class Ended(MarkError):
    """A transaction that runs no more."""

    def __init__(self, number):
        super().__init__("the transaction has ended")
        self.number = number


class Prepared(MarkError):
    """A transaction that can only commit or abort."""

    def __init__(self, number):
        super().__init__("the transaction is prepared")
        self.number = number


class FirstPart(MarkError):
    """A transaction of which only the first part is open."""

    def __init__(self, number):
        super().__init__("only the first part is open")
        self.number = number


class StillOpen(MarkError):
    """A transaction of which a further part is open."""

    def __init__(self, number):
        super().__init__("a further part is open")
        self.number = number


class TooMany(MarkError):
    """One more than the limit allows."""

    def __init__(self, limit):
        super().__init__("the limit is reached")
        self.limit = limit


class Blocked(MarkError):
    """A request that must wait for these transactions."""

    def __init__(self, numbers):
        super().__init__("other transactions are in the way")
        self.numbers = numbers
