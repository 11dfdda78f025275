"""A console that executes rows of text."""

from moveafter.blocks import block_of
from moveafter.errors import NoRow
from moveafter.lines import require_present
from moveafter.live import LiveLine, perform
from moveafter.relations import relation
from moveafter.repeats import after_times, period, settled_after
from moveafter.starts import count_starts
from moveafter.texts import items_text, number_in, read_command, read_line, read_script, show_line, words_in

DONE = "ok"
EMPTY_BLOCK = "-"

# The rows with a text behind the word, and how many numbers stand behind each other word.
TEXT_ROWS = ("line", "script", "move")
NUMBER_ROWS = {
    "run": 1, "put": 1, "take": 1, "undo": 0, "show": 0, "after": 1, "block": 1, "relation": 2,
    "settled": 0, "period": 0, "starts": 0,
}

LINE_ROWS = ("move", "run", "put", "take", "undo", "show", "after", "starts")
SCRIPT_ROWS = ("run", "after", "block", "relation", "settled", "period", "starts")


def line_row(console, text):
    """Create a live line."""
    console.live = LiveLine(read_line(text))
    return DONE


def script_row(console, text):
    """Keep a script."""
    console.script = read_script(text)
    return DONE


def move_row(console, text):
    """Perform a command on the live line."""
    command = read_command(text)
    # The live line itself raises another error for such an item.
    require_present(console.live.line, (command,))
    perform(console.live, command)
    return show_line(console.live.line)


def run_row(console, times):
    """Perform repetitions of the kept script on the live line."""
    return show_line(console.live.run(console.script, times=times))


def put_row(console, item):
    """Put an item into the live line."""
    console.live.put(item)
    return DONE


def take_row(console, item):
    """Take an item out of the live line."""
    console.live.take(item)
    return DONE


def undo_row(console):
    """Revert the last operation on the live line."""
    console.live.undo()
    return DONE


def show_row(console):
    """Return the text of the live line."""
    return show_line(console.live.line)


def after_row(console, times):
    """Return the text of the line after repetitions of the kept script."""
    return show_line(after_times(console.live.line, console.script, times=times))


def block_row(console, item):
    """Return the text of the block of an item."""
    block = block_of(console.script, item)
    return EMPTY_BLOCK if block == () else items_text(block)


def relation_row(console, item, other):
    """Return the relation of two items after the kept script."""
    return relation(console.script, item, other)


def settled_row(console):
    """Return the number of repetitions after which the blocks stay the same tuples."""
    return str(settled_after(console.script))


def period_row(console):
    """Return the period of the kept script."""
    return str(period(console.script))


def starts_row(console):
    """Return the number of starts of the line."""
    return str(count_starts(console.live.line, console.script))


ACTIONS = {
    "line": line_row, "script": script_row, "move": move_row, "run": run_row, "put": put_row, "take": take_row,
    "undo": undo_row, "show": show_row, "after": after_row, "block": block_row, "relation": relation_row,
    "settled": settled_row, "period": period_row, "starts": starts_row,
}


def parts_of(row):
    """Return the word of a row and the list of what stands behind it; raise NoRow if it has no such form."""
    if not isinstance(row, str) or "\n" in row:
        raise NoRow("a row is a string without newlines")
    word, space, text = row.partition(" ")
    if word in TEXT_ROWS and space == " ":
        return word, [text]
    numbers = [number_in(part) for part in words_in(row)[1:]]
    if NUMBER_ROWS.get(word) != len(numbers) or None in numbers:
        raise NoRow("there is no row of this form")
    return word, numbers


class Console:
    """A console that holds a live line and a script, at first none."""

    def __init__(self):
        self.live = None
        self.script = None

    def say(self, row):
        """Execute a row and return its answer."""
        word, given = parts_of(row)
        if word in LINE_ROWS and self.live is None:
            raise NoRow("this row needs a live line")
        if word in SCRIPT_ROWS and self.script is None:
            raise NoRow("this row needs a kept script")
        action = ACTIONS[word]
        return action(self, *given)
