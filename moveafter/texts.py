"""Lines and scripts as texts."""

from moveafter.errors import NoText
from moveafter.lines import is_command, is_line, is_script, require_line, require_script

DIGITS = "0123456789"
# Longer numbers are no items, and no numbers of repetitions.
MOST_DIGITS = 31
BEHIND_SIGN = ">"
BEFORE_SIGN = "<"


def words_in(value):
    """Return the list of the words between single spaces, an empty list if the value is not a string."""
    return value.split(" ") if isinstance(value, str) else []


def number_in(text):
    """Return the number with this text of at most 31 digits, None if there is none."""
    if not 1 <= len(text) <= MOST_DIGITS or not all([sign in DIGITS for sign in text]):
        return None
    number = int(text)
    # The text differs where it has leading zeros.
    return number if str(number) == text else None


def command_in(text):
    """Return the word and the two numbers of a text, which need not be a command, None if it has no sign."""
    for word, sign in (("behind", BEHIND_SIGN), ("before", BEFORE_SIGN)):
        first, found, second = text.partition(sign)
        if found:
            return word, number_in(first), number_in(second)
    return None


def items_text(items):
    """Return the items, separated by single spaces."""
    return " ".join([str(item) for item in items])


def command_text(command):
    """Return the text of a command."""
    word, item, other = command
    sign = BEHIND_SIGN if word == "behind" else BEFORE_SIGN
    return f"{item}{sign}{other}"


def show_line(line):
    """Return the text of a line."""
    require_line(line)
    return items_text(line)


def read_line(text):
    """Return the line with this text."""
    line = tuple([number_in(word) for word in words_in(text)])
    if not is_line(line):
        raise NoText("this is not the text of a line")
    return line


def show_script(script):
    """Return the text of a script."""
    require_script(script)
    return " ".join([command_text(command) for command in script])


def read_script(text):
    """Return the script with this text."""
    script = tuple([command_in(word) for word in words_in(text)])
    if not is_script(script):
        raise NoText("this is not the text of a script")
    return script


def read_command(text):
    """Return the command with this text, which is a string."""
    command = command_in(text)
    if not is_command(command):
        raise NoText("this is not the text of a command")
    return command
