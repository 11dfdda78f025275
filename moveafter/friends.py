"""Days on which each item moves behind its friend."""

from moveafter.errors import NoFriends
from moveafter.lines import MOST_ITEMS, is_item, require_inside, require_line, require_times
from moveafter.playing import effect_after, named_items, replaced
from moveafter.repeats import final_blocks, period, settled_after


def is_friends(value):
    """Return True if the value is friends, otherwise False."""
    if not isinstance(value, dict) or not 1 <= len(value) <= MOST_ITEMS:
        return False
    if not all([is_item(item) for item in value]):
        return False
    found = [(item, friend) for item, friend in value.items() if friend is not None]
    return all([is_item(friend) and friend in value and friend != item for item, friend in found])


def require_friends(value):
    """Raise NoFriends if the value is not friends."""
    if not is_friends(value):
        raise NoFriends("friends are a dict from 1 to 60 items to others of them or to None")


def commands_of(friends):
    """Return the tuple of the commands of a day."""
    return tuple([("behind", item, friends[item]) for item in sorted(friends) if friends[item] is not None])


def day_script(friends):
    """Return the commands of a day, a script or the empty tuple."""
    require_friends(friends)
    return commands_of(friends)


def after_days(line, friends, *, days=1):
    """Return the line after so many days."""
    require_line(line)
    require_friends(friends)
    require_times(days)
    # Items that nobody moves must be in the line, too.
    require_inside(line, friends)
    return replaced(line, effect_after(commands_of(friends), days))


# On a day without commands there is no script that could be asked, so the functions below tell it apart.


def count_final(friends):
    """Return the number of final blocks of the days."""
    require_friends(friends)
    script = commands_of(friends)
    if script == ():
        return len(friends)
    # Friends whom no command names stay alone, each one as a block.
    return len(final_blocks(script)) + len(friends) - len(named_items(script))


def days_needed(friends):
    """Return the least number of days after which the blocks stay the same tuples."""
    require_friends(friends)
    script = commands_of(friends)
    return 0 if script == () else settled_after(script)


def day_period(friends):
    """Return the number of days after which every line of final blocks comes again."""
    require_friends(friends)
    script = commands_of(friends)
    return 1 if script == () else period(script)
