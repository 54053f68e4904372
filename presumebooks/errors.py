"""The errors of the package: DealError, and all others directly below it.

The messages are the same for all values, because a value can be of any kind: it is read off the attribute.
"""


def copied(value):
    """A value as it is now, which later changes of the lists and dicts in it do not reach."""
    if isinstance(value, list):
        return [copied(item) for item in value]
    if isinstance(value, tuple):
        return tuple([copied(item) for item in value])
    if isinstance(value, dict):
        return {key: copied(value[key]) for key in value}
    return value


class DealError(ValueError):
    """What all errors of the package are."""


class BadBook(DealError):
    """A part of a book, or what was passed as a book, is not as told."""

    def __init__(self, part):
        super().__init__("a part of a book, or a book, is not as told")
        self.part = copied(part)


class BadRecord(DealError):
    """A value is no record, or none that can stand there."""

    def __init__(self, record):
        super().__init__("no record, or none that can stand there")
        self.record = copied(record)


class BadLog(DealError):
    """A value is no log."""


class BadNumber(DealError):
    """A value is no number, or none of those that are told."""

    def __init__(self, number):
        super().__init__("no number, or none of those that are told")
        self.number = copied(number)


class BadStanding(DealError):
    """A value is no standing."""


class BadDeed(DealError):
    """An item is no deed, or cannot be done there."""

    def __init__(self, at):
        super().__init__("no deed, or none that can be done there")
        self.at = copied(at)


class BadWish(DealError):
    """A value is no wish, or none that can stand there."""

    def __init__(self, wish):
        super().__init__("no wish, or none that can stand there")
        self.wish = copied(wish)


class NoBreak(DealError):
    """A run does not break what it is said to break."""


class NotHeld(DealError):
    """A wish does not hold that is said to hold."""


class BadOutcome(DealError):
    """A value is no outcome."""


class NothingDone(DealError):
    """There is nothing that could be taken back."""


class BadJournal(DealError):
    """An entry of a journal is wrong."""

    def __init__(self, at):
        super().__init__("an entry of a journal is wrong")
        self.at = copied(at)


class BadText(DealError):
    """A line of a text is wrong."""

    def __init__(self, line):
        super().__init__("a line of a text is wrong")
        self.line = copied(line)
