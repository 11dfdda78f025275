"""What a script does if it is repeated."""

from math import lcm

from moveafter.lines import require_repeatable, require_script, require_times
from moveafter.playing import effect_after, effect_of, remaining_sources, replaced, source_rings, sources_of


def after_times(line, script, *, times=1):
    """Return the line after so many repetitions of the script."""
    require_repeatable(line, script, times)
    return replaced(line, effect_after(script, times))


def blocks_after(script, *, times=1):
    """Return the dict of the blocks of the named items for so many repetitions."""
    require_script(script)
    require_times(times)
    return effect_after(script, times)


def settled_after(script):
    """Return the least number of repetitions after which the blocks stay the same tuples."""
    require_script(script)
    # A repetition that empties no further block leaves each block that is not empty as it is:
    # it is replaced by exactly one such block.
    return len(remaining_sources(sources_of(effect_of(script)))) - 1


def final_blocks(script):
    """Return the ascending list of the blocks that stay the same tuples at last."""
    blocks = effect_after(script, settled_after(script))
    return sorted([block for block in blocks.values() if block != ()])


def rings_of(script):
    """Return the ascending list of the rings of the sources."""
    require_script(script)
    return source_rings(sources_of(effect_of(script)))


def period(script):
    """Return the least common multiple of the lengths of the rings."""
    many = 1
    for ring in rings_of(script):
        many = lcm(many, len(ring))
    return many
