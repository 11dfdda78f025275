"""A line that is changed operation by operation."""

from moveafter.errors import NoItem, NoOperation, Nothing, NoTimes, Same
from moveafter.lines import MOST_TIMES, is_item, is_within, moved, require_line, require_script
from moveafter.repeats import after_times

# How many parts an operation with each word has in a log.
OPERATION_SIZES = {"behind": 3, "before": 3, "run": 3, "put": 2, "take": 2}


def is_operation(value):
    """Return True if the value has the form of an operation in a log, otherwise False."""
    if not isinstance(value, tuple) or len(value) == 0 or not isinstance(value[0], str):
        return False
    return OPERATION_SIZES.get(value[0]) == len(value)


def is_item_of(line, value):
    """Return True if the value is an item of the line, otherwise False."""
    # A bool would be found in a line as well.
    return is_item(value) and value in line


def require_item_of(line, value):
    """Raise NoItem if the value is not an item of the line."""
    if not is_item_of(line, value):
        raise NoItem("this is not an item of the line")


def perform(live, operation):
    """Perform an operation as it is written in a log."""
    word, *values = operation
    if word == "behind":
        live.behind(*values)
    elif word == "before":
        live.before(*values)
    elif word == "run":
        live.run(values[0], times=values[1])
    elif word == "put":
        live.put(*values)
    else:
        live.take(*values)


class LiveLine:
    """A line that is changed operation by operation and can go back."""

    ITEMS = 60

    def __init__(self, line):
        require_line(line)
        self._line = line
        # The operations that are not undone, each with the line before it.
        self._steps = []

    @classmethod
    def of(cls, *items):
        """Return a live line of the items."""
        return cls(items)

    @property
    def line(self):
        """The present line."""
        return self._line

    @property
    def first(self):
        """The first item of the present line."""
        return self._line[0]

    @property
    def last(self):
        """The last item of the present line."""
        return self._line[-1]

    def __len__(self):
        return len(self._line)

    def __eq__(self, other):
        return isinstance(other, LiveLine) and self._line == other._line

    def _enter(self, operation, line):
        """Write an operation down that leads to a line."""
        self._steps.append((operation, self._line))
        self._line = line

    def _move(self, word, item, other):
        """Perform a command, write it down and return the new line."""
        require_item_of(self._line, item)
        require_item_of(self._line, other)
        if item == other:
            raise Same("an item can not move next to itself")
        self._enter((word, item, other), moved(self._line, (word, item, other)))
        return self._line

    def behind(self, item, other):
        """Move an item directly behind another one and return the new line."""
        return self._move("behind", item, other)

    def before(self, item, other):
        """Move an item directly before another one and return the new line."""
        return self._move("before", item, other)

    def run(self, script, *, times=1):
        """Perform so many repetitions of a script and return the new line."""
        require_script(script)
        if not is_within(times, 1, MOST_TIMES):
            raise NoTimes("a number of repetitions to run is an integer from 1 to 10 ** 30")
        # An item that is missing is told by after_times, before anything changes.
        self._enter(("run", script, times), after_times(self._line, script, times=times))
        return self._line

    def put(self, item):
        """Put a new item behind the last one."""
        if not is_item(item) or item in self._line:
            raise NoItem("this is not an item, or it is in the line")
        self._enter(("put", item), (*self._line, item))

    def take(self, item):
        """Take an item out that is not the only one."""
        require_item_of(self._line, item)
        if len(self._line) == 1:
            raise NoItem("the only item can not be taken")
        self._enter(("take", item), tuple([present for present in self._line if present != item]))

    def undo(self):
        """Revert the last operation that is not undone."""
        if not self._steps:
            raise Nothing("there is no operation to undo")
        _, self._line = self._steps.pop()

    def log(self):
        """Return the list of the operations that are not undone."""
        return [operation for operation, _ in self._steps]

    def preview(self, *operations):
        """Return the line after operations of a log, and stay as before."""
        if not all([is_operation(operation) for operation in operations]):
            raise NoOperation("this is not an operation as it is written in a log")
        trial = LiveLine(self._line)
        for operation in operations:
            perform(trial, operation)
        return trial.line
