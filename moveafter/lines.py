"""Items, lines, commands and scripts, and what a script does to a line."""

from moveafter.errors import Missing, NoCommand, NoItem, NoLine, NoScript, NoTimes
from moveafter.playing import effect_of, named_items, played, replaced

MOST_ITEMS = 60
MOST_COMMANDS = 200
MOST_TIMES = 10 ** 30
WORDS = ("behind", "before")


def is_within(value, least, most):
    """Return True if the value is an integer in these bounds, otherwise False."""
    return isinstance(value, int) and not isinstance(value, bool) and least <= value <= most


def is_item(value):
    """Return True if the value is an item, otherwise False."""
    return is_within(value, 0, MOST_ITEMS - 1)


def is_line(value):
    """Return True if the value is a line, otherwise False."""
    if not isinstance(value, tuple) or not 1 <= len(value) <= MOST_ITEMS:
        return False
    return all([is_item(item) for item in value]) and len(set(value)) == len(value)


def is_command(value):
    """Return True if the value is a command, otherwise False."""
    if not isinstance(value, tuple) or len(value) != 3:
        return False
    word, item, other = value
    if not isinstance(word, str) or word not in WORDS:
        return False
    return is_item(item) and is_item(other) and item != other


def is_script(value):
    """Return True if the value is a script, otherwise False."""
    if not isinstance(value, tuple) or not 1 <= len(value) <= MOST_COMMANDS:
        return False
    return all([is_command(command) for command in value])


def require_line(value):
    """Raise NoLine if the value is not a line."""
    if not is_line(value):
        raise NoLine("a line is a tuple of 1 to 60 different items")


def require_command(value):
    """Raise NoCommand if the value is not a command."""
    if not is_command(value):
        raise NoCommand("a command is a tuple of a word and two different items")


def require_script(value):
    """Raise NoScript if the value is not a script."""
    if not is_script(value):
        raise NoScript("a script is a tuple of 1 to 200 commands")


def require_item(value):
    """Raise NoItem if the value is not an item."""
    if not is_item(value):
        raise NoItem("an item is an integer from 0 to 59")


def require_times(value):
    """Raise NoTimes if the value is not a number of repetitions."""
    if not is_within(value, 0, MOST_TIMES):
        raise NoTimes("a number of repetitions is an integer from 0 to 10 ** 30")


def require_inside(line, items):
    """Raise Missing if one of the items is not in the line."""
    for item in items:
        if item not in line:
            raise Missing(f"the item {item} is not in the line")


def require_present(line, script):
    """Raise Missing if an item of the commands is not in the line."""
    require_inside(line, named_items(script))


def require_repeatable(line, script, times):
    """Raise the first error of a line, a script and a number of repetitions of it on the line."""
    require_line(line)
    require_script(script)
    require_times(times)
    require_present(line, script)


def moved(line, command):
    """Return the line after a command."""
    require_line(line)
    require_command(command)
    require_present(line, (command,))
    return tuple(played(line, (command,)))


def after_script(line, script):
    """Return the line after a script."""
    require_line(line)
    require_script(script)
    require_present(line, script)
    return tuple(played(line, script))


def lines_from(line, script):
    """Yield the line, then the lines after 1, 2, 3 and so on repetitions, without end."""
    require_line(line)
    require_script(script)
    require_present(line, script)
    # Laying out the blocks takes one step for each item, however many commands there are.
    blocks = effect_of(script)
    present = line
    while True:
        yield present
        present = replaced(present, blocks)


def items_of(script):
    """Return the ascending list of the named items."""
    require_script(script)
    return named_items(script)
