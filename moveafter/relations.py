"""Which items are surely ahead of which ones after repetitions of a script."""

from moveafter.errors import NoItem, NoPairs
from moveafter.lines import is_item, require_item, require_script, require_times
from moveafter.playing import effect_after, sources_of


def require_two_items(item, other):
    """Raise NoItem if the values are not two different items."""
    require_item(item)
    require_item(other)
    if item == other:
        raise NoItem("an item is neither ahead of itself nor behind itself")


def is_pair(value):
    """Return True if the value is a tuple of two different items, otherwise False."""
    if not isinstance(value, tuple) or len(value) != 2:
        return False
    return is_item(value[0]) and is_item(value[1]) and value[0] != value[1]


def followers_in(known):
    """Return the dict from the items to the lists of those that the pairs put behind them."""
    followers = {}
    for item, other in known:
        followers.setdefault(item, []).append(other)
    return followers


def is_led_to(followers, item, other):
    """Return True if pairs lead from the item to the other one, otherwise False."""
    reached = set()
    waiting = [item]
    while waiting:
        present = waiting.pop()
        for follower in followers.get(present, []):
            if follower not in reached:
                reached.add(follower)
                waiting.append(follower)
    return other in reached


def require_pairs(known):
    """Raise NoPairs if the value is not a tuple of pairs that agree with one another."""
    if not isinstance(known, tuple) or not all([is_pair(pair) for pair in known]):
        raise NoPairs("known pairs are a tuple of tuples of two different items")
    followers = followers_in(known)
    # Pairs of which no item is led back to itself hold together on some line.
    if any([is_led_to(followers, item, item) for item in followers]):
        raise NoPairs("the known pairs contradict one another")


def two_sources(blocks, item, other):
    """Return the tuple of the sources of two items."""
    sources = sources_of(blocks)
    return sources.get(item, item), sources.get(other, other)


def relation_in(blocks, followers, item, other):
    """Return the relation of two items for the blocks and for what is known of the line at first."""
    first, second = two_sources(blocks, item, other)
    if first == second:
        block = blocks[first]
        return "ahead" if block.index(item) < block.index(other) else "behind"
    if is_led_to(followers, first, second):
        return "ahead"
    if is_led_to(followers, second, first):
        return "behind"
    return "open"


def relation(script, item, other, *, times=1):
    """Return "ahead" or "behind" if the item surely is ahead of the other one or behind it, otherwise "open"."""
    require_script(script)
    require_two_items(item, other)
    require_times(times)
    return relation_in(effect_after(script, times), {}, item, other)


def deciding(script, item, other, *, times=1):
    """Return the two items whose order at first decides that of the two items, None if it is decided."""
    require_script(script)
    require_two_items(item, other)
    require_times(times)
    first, second = two_sources(effect_after(script, times), item, other)
    return None if first == second else (first, second)


def relation_with(script, item, other, known, *, times=1):
    """Return the relation if the first item of each known pair was ahead of the second one at first."""
    require_script(script)
    require_two_items(item, other)
    require_pairs(known)
    require_times(times)
    return relation_in(effect_after(script, times), followers_in(known), item, other)
