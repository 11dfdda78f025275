"""Plays scripts on rows of items, once and repeatedly. These functions check nothing: their callers have checked."""

# Not an item, so that no command can move it or name it.
FENCE = -1


def named_items(script):
    """Return the ascending list of the items of the commands."""
    return sorted({item for command in script for item in command[1:]})


def played(items, script):
    """Return the list of the items after the commands."""
    row = list(items)
    for word, item, other in script:
        row.remove(item)
        place = row.index(other)
        if word == "behind":
            place += 1
        row.insert(place, item)
    return row


def fenced(items):
    """Return a list of the items with a fence before each one."""
    row = []
    for item in items:
        row.append(FENCE)
        row.append(item)
    return row


def between_fences(row):
    """Return the list of the tuples that stand behind one fence each."""
    parts = []
    for item in row:
        if item == FENCE:
            parts.append([])
        else:
            parts[-1].append(item)
    return [tuple(part) for part in parts]


def effect_of(script):
    """Return the dict of the blocks of the named items, keys ascending."""
    named = named_items(script)
    # Fences never move, and an item moves directly next to another one, so it lands on the same
    # side of each fence. What stands between two fences at last is therefore one item's block.
    blocks = between_fences(played(fenced(named), script))
    return {item: block for item, block in zip(named, blocks)}


def replaced(items, blocks):
    """Return the tuple in which each item gives way to its block, if it has one in the dict."""
    return tuple([part for item in items for part in blocks.get(item, (item,))])


def followed(effect, other_effect):
    """Return the effect of one effect and then another one of the same items, keys ascending."""
    return {item: replaced(effect[item], other_effect) for item in sorted(effect)}


def effect_after(script, times):
    """Return the dict of the blocks of the named items for so many repetitions, keys ascending."""
    doubled = effect_of(script)
    blocks = {item: (item,) for item in doubled}
    # The repetitions are doubled step by step, so that 10 ** 30 of them take a hundred steps.
    while times > 0:
        if times & 1:
            blocks = followed(blocks, doubled)
        doubled = followed(doubled, doubled)
        times >>= 1
    return blocks


def sources_of(effect):
    """Return the dict of the sources of the items of an effect."""
    return {item: source for source, block in effect.items() for item in block}


def remaining_sources(sources):
    """Return the ascending lists of the items whose blocks are not empty after 0, 1, 2 and so on repetitions.

    The last list is the one that all further repetitions leave as it is: the items of the rings.
    """
    rows = [sorted(sources)]
    while True:
        row = sorted({sources[item] for item in rows[-1]})
        if row == rows[-1]:
            return rows
        rows.append(row)


def source_rings(sources):
    """Return the rings of the sources, ascending, each one from its least item on."""
    rings = []
    for first in remaining_sources(sources)[-1]:
        if not any([first in found for found in rings]):
            ring = [first]
            while sources[ring[-1]] != first:
                ring.append(sources[ring[-1]])
            rings.append(ring)
    return rings
