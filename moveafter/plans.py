"""Which effects are possible, and the shortest scripts for an effect or for a line."""

from math import factorial, perm

from moveafter.blocks import require_effect
from moveafter.errors import Impossible, NoSize, NotAlike
from moveafter.lines import MOST_ITEMS, is_within, require_line, require_script
from moveafter.playing import effect_of, source_rings, sources_of


def has_possible_blocks(effect):
    """Return True if an item has an empty block or every item is its own block, otherwise False."""
    if any([block == () for block in effect.values()]):
        return True
    return all([block == (item,) for item, block in effect.items()])


def require_possible(effect):
    """Raise NoEffect or Impossible if the value is not a possible effect."""
    require_effect(effect)
    if not has_possible_blocks(effect):
        raise Impossible("no block is empty, and not every item is its own block")


def strangers_in(effect):
    """Return the ascending list of the items that are not in their own block."""
    return [item for item in sorted(effect) if item not in effect[item]]


def lone_rings(effect):
    """Return the rings of two or more items that stand alone in one another's blocks."""
    rings = source_rings(sources_of(effect))
    return [ring for ring in rings if len(ring) > 1 and all([len(effect[item]) == 1 for item in ring])]


def ring_commands(ring, helper):
    """Return the commands that move each item of the ring into its source's place.

    The helper is behind the ring's first item when that one leaves, and keeps its place for the last item.
    """
    return [("behind", item, other) for item, other in zip([helper, *ring], [*ring, helper])]


def command_beside(item, row, placed):
    """Return the command that moves the item next to the nearest placed item of its row, None if there is none."""
    place = row.index(item)
    for other in reversed(row[:place]):
        if other in placed:
            return ("behind", item, other)
    for other in row[place + 1:]:
        if other in placed:
            return ("before", item, other)
    return None


def may_leave(item, effect, placed):
    """Return True if nothing is lost of the item's block when the item leaves it, otherwise False."""
    return effect[item] == () or any([part in placed for part in effect[item]])


def block_commands(effect, waiting):
    """Return the commands that move each waiting item into its block; all others are in theirs."""
    sources = sources_of(effect)
    placed = [item for item in effect if item not in waiting]
    commands = []
    while waiting:
        # Some item always may leave: otherwise the waiting ones would make up lone rings.
        item = [other for other in waiting if may_leave(other, effect, placed)][0]
        source = sources[item]
        command = command_beside(item, effect[source], placed)
        # Where nothing is placed yet, the source itself has not left.
        commands.append(("behind", item, source) if command is None else command)
        placed.append(item)
        waiting = [other for other in waiting if other != item]
    return commands


def is_possible(effect):
    """Return True if the effect is possible, otherwise False."""
    require_effect(effect)
    return has_possible_blocks(effect)


def fewest_commands(effect):
    """Return the least number of commands that have a possible effect."""
    require_possible(effect)
    return len(strangers_in(effect)) + len(lone_rings(effect))


def plan_for(effect):
    """Return a tuple of the least number of commands that have a possible effect."""
    require_possible(effect)
    rings = lone_rings(effect)
    empty = [item for item in sorted(effect) if effect[item] == ()]
    # The helper leaves an empty block, and it moves to its own place only after all rings.
    commands = [command for ring in rings for command in ring_commands(ring, empty[0])]
    turned = [item for ring in rings for item in ring]
    waiting = [item for item in strangers_in(effect) if item not in turned]
    return tuple(commands + block_commands(effect, waiting))


def has_effect(script, effect):
    """Return True if the script has the effect, otherwise False."""
    require_script(script)
    require_effect(effect)
    blocks = effect_of(script)
    if not all([item in effect for item in blocks]):
        return False
    return all([blocks.get(item, (item,)) == block for item, block in effect.items()])


def count_effects(size):
    """Return the number of possible effects of so many given items."""
    if not is_within(size, 1, MOST_ITEMS):
        raise NoSize("a number of items is an integer from 1 to 60")
    # The items in any order, with size - 1 bounds between blocks anywhere: (2 * size - 1)! / (size - 1)!
    # effects. Those without an empty block, size! of them, are not possible but for one.
    return perm(2 * size - 1, size) - factorial(size) + 1


def require_alike(line, target):
    """Raise NoLine or NotAlike if the values are not lines of the same items."""
    require_line(line)
    require_line(target)
    if sorted(line) != sorted(target):
        raise NotAlike("the lines have different items")


def kept_items(line, target):
    """Return a longest list of items that stand in the same order in both lines."""
    places = {item: place for place, item in enumerate(target)}
    # For each item of the line a longest such list that it ends.
    rows = []
    for item in line:
        shorter = [row for row in rows if places[row[-1]] < places[item]]
        rows.append(max(shorter, key=len, default=[]) + [item])
    return max(rows, key=len)


def fewest_moves(line, target):
    """Return the least number of commands that lead from a line to another one."""
    require_alike(line, target)
    return len(line) - len(kept_items(line, target))


def moves_for(line, target):
    """Return a tuple of the least number of commands that lead from a line to another one."""
    require_alike(line, target)
    placed = kept_items(line, target)
    moves = []
    for item in target:
        if item not in placed:
            moves.append(command_beside(item, target, placed))
            placed.append(item)
    return tuple(moves)
