"""The errors of the package, one class for each kind of failure."""


class MoveError(ValueError):
    """The base of all errors of the package."""


class NoLine(MoveError):
    """A value is not a line."""


class NoCommand(MoveError):
    """A value is not a command."""


class NoScript(MoveError):
    """A value is not a script."""


class NoItem(MoveError):
    """A value is not an item, or not one that fits here."""


class Missing(MoveError):
    """An item that is needed is not in the line."""


class Same(MoveError):
    """Two items that must differ are the same one."""


class NoTimes(MoveError):
    """A value is not a number of repetitions."""


class NoEffect(MoveError):
    """A value is not an effect."""


class NotAlike(MoveError):
    """Two values do not have the same items."""


class NoPairs(MoveError):
    """A value is not a tuple of pairs that agree with one another."""


class NoNumber(MoveError):
    """There is no start with this number."""


class Impossible(MoveError):
    """No script has this effect."""


class NoSize(MoveError):
    """A value is not a number of items."""


class NoFriends(MoveError):
    """A value is not friends."""


class Nothing(MoveError):
    """There is nothing to undo."""


class NoOperation(MoveError):
    """A value is not an operation of a log."""


class NoText(MoveError):
    """A value is not the text of what is read."""


class NoRow(MoveError):
    """A value is not a row that can be executed now."""
