"""The blocks by which a script replaces the items of every line, and effects."""

from moveafter.errors import NoEffect, NotAlike
from moveafter.lines import MOST_ITEMS, is_item, require_item, require_script
from moveafter.playing import effect_of, followed, replaced, sources_of


def block_of(script, item):
    """Return the block of an item."""
    require_script(script)
    require_item(item)
    return replaced((item,), effect_of(script))


def source_of(script, item):
    """Return the item whose block contains an item."""
    require_script(script)
    require_item(item)
    # An item that is not named stands in its own block.
    return sources_of(effect_of(script)).get(item, item)


def blocks_of(script):
    """Return the dict of the blocks of the named items."""
    require_script(script)
    return effect_of(script)


def same_blocks(script, other_script):
    """Return True if every item has the same block for two scripts, otherwise False."""
    require_script(script)
    require_script(other_script)
    blocks = effect_of(script)
    other_blocks = effect_of(other_script)
    # The scripts may name different items: a named item may also be its own block.
    return all([replaced((item,), blocks) == replaced((item,), other_blocks) for item in range(MOST_ITEMS)])


def is_effect(value):
    """Return True if the value is an effect, otherwise False."""
    if not isinstance(value, dict) or not 1 <= len(value) <= MOST_ITEMS:
        return False
    inside = []
    for block in value.values():
        if not isinstance(block, tuple):
            return False
        inside.extend(block)
    if not all([is_item(item) for item in list(value) + inside]):
        return False
    return sorted(inside) == sorted(value)


def require_effect(value):
    """Raise NoEffect if the value is not an effect."""
    if not is_effect(value):
        raise NoEffect("an effect is a dict from 1 to 60 items to tuples in which each item stands once")


def joined(effect, other_effect):
    """Return the effect of the first one followed by the second one."""
    require_effect(effect)
    require_effect(other_effect)
    if sorted(effect) != sorted(other_effect):
        raise NotAlike("the effects have different items")
    return followed(effect, other_effect)
