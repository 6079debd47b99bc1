"""All errors that the program raises."""


class BourseError(ValueError):
    """The base class of all errors of the program."""


class InvalidAmount(BourseError):
    """An amount is out of range, or it is not an integer."""


class InvalidWeights(BourseError):
    """Weights that nothing can be divided by."""


class InvalidLine(BourseError):
    """A line of the terms is invalid; its number, from 1, is the field `line`."""

    def __init__(self, line):
        super().__init__("the terms have an invalid line")
        self.line = line


class UnknownName(BourseError):
    """Nothing has this name."""


class DuplicateName(BourseError):
    """Something has this name already."""


class InvalidTrade(BourseError):
    """A trade or a table of debts breaks a rule."""


class InvalidOrder(BourseError):
    """The parts of an order do not fit."""


class UnknownOrder(BourseError):
    """No order has this number."""


class NotOwner(BourseError):
    """The order belongs to another house."""


class WrongPhase(BourseError):
    """The market is in another phase."""


class OutOfBand(BourseError):
    """A price is too far from the reference price."""


class HouseFallen(BourseError):
    """A house that has fallen gives no more commands."""


class MarginShort(BourseError):
    """The margin does not cover what is needed."""


class Unbalanced(BourseError):
    """The amounts of an entry do not sum to 0."""


class Overdrawn(BourseError):
    """An account that may not owe would have a balance below 0."""


class BrokenTape(BourseError):
    """A text that no tape can have, or a tape that cannot be replayed."""


class InvalidCommand(BourseError):
    """A line that is no command."""
