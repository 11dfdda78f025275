"""The lines to which repetitions of a script lead, and the lines from which they lead to a line."""

from math import factorial, perm

from moveafter.errors import NoNumber
from moveafter.lines import is_within, require_repeatable, require_script, require_times
from moveafter.playing import effect_after, replaced, sources_of

# On a start the items with blocks that are not empty stand in the order of their blocks on the line
# to which it leads. They are called bound here. The items with empty blocks, called free, stand anywhere.


def bound_items(line, blocks):
    """Return the list of the items whose blocks make up the line in this order, None if there are none such."""
    sources = sources_of(blocks)
    bound = []
    for item in line:
        source = sources.get(item, item)
        if bound[-1:] != [source]:
            bound.append(source)
    return bound if replaced(bound, blocks) == line else None


def free_items(line, blocks):
    """Return the list of the items of the line with empty blocks."""
    return [item for item in line if blocks.get(item) == ()]


def count_orders(many_bound, many_free):
    """Return the number of orders of so many items in which the bound ones keep theirs."""
    return perm(many_bound + many_free, many_free)


def without(items, left_out):
    """Return the list of the items without one of them."""
    return [item for item in items if item != left_out]


def choices(bound, free):
    """Return the ascending list of the items that may stand next, each with the number of orders behind it."""
    found = [(item, count_orders(len(bound), len(free) - 1)) for item in free]
    if bound:
        found.append((bound[0], count_orders(len(bound) - 1, len(free))))
    return sorted(found)


def start_with_number(bound, free, number):
    """Return the order of all the items that has the number."""
    start = []
    while bound or free:
        found = choices(bound, free)
        at = 0
        while number >= found[at][1]:
            number -= found[at][1]
            at += 1
        start.append(found[at][0])
        bound, free = without(bound, start[-1]), without(free, start[-1])
    return tuple(start)


def count_ends(script, *, times=1):
    """Return the number of lines of the named items to which so many repetitions lead."""
    require_script(script)
    require_times(times)
    blocks = effect_after(script, times)
    return factorial(len([block for block in blocks.values() if block != ()]))


def count_starts(line, script, *, times=1):
    """Return the number of starts of a line."""
    require_repeatable(line, script, times)
    blocks = effect_after(script, times)
    bound = bound_items(line, blocks)
    return 0 if bound is None else count_orders(len(bound), len(free_items(line, blocks)))


def nth_start(line, script, number, *, times=1):
    """Return the start of a line with a number."""
    require_repeatable(line, script, times)
    blocks = effect_after(script, times)
    bound = bound_items(line, blocks)
    free = free_items(line, blocks)
    if bound is None or not is_within(number, 0, count_orders(len(bound), len(free)) - 1):
        raise NoNumber("the line has no start with this number")
    return start_with_number(bound, free, number)


def start_number(line, script, *, times=1):
    """Return the number of a line among the starts of the line to which it leads."""
    require_repeatable(line, script, times)
    free = free_items(line, effect_after(script, times))
    bound = [item for item in line if item not in free]
    number = 0
    for present in line:
        number += sum([orders for item, orders in choices(bound, free) if item < present])
        bound, free = without(bound, present), without(free, present)
    return number
