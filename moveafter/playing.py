"""Plays scripts on rows of items. These functions check nothing: their callers have checked."""

# Not an item, so that no command can move it or name it.
FENCE = -1


def named_items(script):
    """Return the ascending list of the items of the commands."""
    return sorted({item for command in script for item in command[1:]})


def played(items, script):
    """Return the list of the items after the commands."""
    row = list(items)
    for word, item, other in script:
        row.remove(item)
        place = row.index(other)
        if word == "behind":
            place += 1
        row.insert(place, item)
    return row


def fenced(items):
    """Return a list of the items with a fence before each one."""
    row = []
    for item in items:
        row.append(FENCE)
        row.append(item)
    return row


def between_fences(row):
    """Return the list of the tuples that stand behind one fence each."""
    parts = []
    for item in row:
        if item == FENCE:
            parts.append([])
        else:
            parts[-1].append(item)
    return [tuple(part) for part in parts]


def effect_of(script):
    """Return the dict of the blocks of the named items, keys ascending."""
    named = named_items(script)
    # Fences never move, and an item moves directly next to another one, so it lands on the same
    # side of each fence. What stands between two fences at last is therefore one item's block.
    blocks = between_fences(played(fenced(named), script))
    return {item: block for item, block in zip(named, blocks)}


def replaced(items, blocks):
    """Return the tuple in which each item gives way to its block, if it has one in the dict."""
    return tuple([part for item in items for part in blocks.get(item, (item,))])
