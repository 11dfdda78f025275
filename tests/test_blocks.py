"""[3], [4], [7], [8]: block_of, source_of, blocks_of, same_blocks and joined."""

import copy
import unittest

from moveafter.blocks import block_of, blocks_of, is_effect, joined, same_blocks, source_of
from moveafter.errors import NoEffect, NoItem, NoScript, NotAlike
from moveafter.lines import after_script, items_of
from tests.samples import (BAD_EFFECTS, BAD_ITEMS, BAD_SCRIPTS, FULL_LINE, SCRIPT, Dice, ErrorCase, all_commands,
                           sample_scripts, slow_blocks)

EFFECT = {0: (), 1: (0, 2), 2: (1,)}


def same_items_scripts(many):
    """Yield pairs of scripts that name the same items."""
    dice = Dice(21)
    found = 0
    while found < many:
        items = dice.some(range(60), 2 + dice.roll(6))
        one, two = dice.script(items, 1 + dice.roll(20)), dice.script(items, 1 + dice.roll(20))
        if items_of(one) == items_of(two):
            found += 1
            yield one, two


class Blocks(unittest.TestCase):
    def test_compared_with_moving_between_blocks(self):
        for script in sample_scripts():
            expected = slow_blocks(script)
            self.assertEqual(blocks_of(script), expected)
            for item in range(60):
                self.assertEqual(block_of(script, item), expected.get(item, (item,)))

    def test_all_short_scripts(self):
        commands = all_commands([0, 1, 2])
        for one in commands:
            for two in commands:
                for three in commands:
                    script = (one, two, three)
                    self.assertEqual(blocks_of(script), slow_blocks(script))

    def test_blocks_of_every_line(self):
        dice = Dice(8)
        for script in sample_scripts():
            named = items_of(script)
            blocks = blocks_of(script)
            for _ in range(5):
                line = dice.shuffled(named)
                expected = after_script(tuple(line), script)
                self.assertEqual(sum([blocks[item] for item in line], ()), expected)
                self.assertEqual(sum([block_of(script, item) for item in line], ()), expected)

    def test_blocks_of_lines_with_other_items(self):
        dice = Dice(9)
        for script in sample_scripts():
            line = tuple(dice.shuffled(FULL_LINE))
            expected = after_script(line, script)
            self.assertEqual(sum([block_of(script, item) for item in line], ()), expected)

    def test_not_named(self):
        for item in range(60):
            if item not in [4, 58]:
                self.assertEqual(block_of((("before", 4, 58),), item), (item,))
                self.assertEqual(source_of((("before", 4, 58),), item), item)

    def test_one_command(self):
        self.assertEqual(blocks_of((("behind", 3, 9),)), {3: (), 9: (9, 3)})
        self.assertEqual(blocks_of((("before", 3, 9),)), {3: (), 9: (3, 9)})
        self.assertEqual(blocks_of((("before", 9, 3),)), {3: (9, 3), 9: ()})

    def test_keys_ascending(self):
        for script in sample_scripts():
            self.assertEqual(list(blocks_of(script)), items_of(script))
        self.assertEqual(list(blocks_of((("behind", 59, 3), ("before", 11, 0)))), [0, 3, 11, 59])

    def test_are_effects(self):
        for script in sample_scripts():
            self.assertIs(is_effect(blocks_of(script)), True)

    def test_source(self):
        for script in sample_scripts():
            blocks = slow_blocks(script)
            expected = {item: key for key, block in blocks.items() for item in block}
            for item in range(60):
                self.assertEqual(source_of(script, item), expected.get(item, item))

    def test_kinds(self):
        self.assertIs(type(block_of(SCRIPT, 0)), tuple)
        self.assertIs(type(block_of(SCRIPT, 1)), tuple)
        self.assertIs(type(block_of(SCRIPT, 9)), tuple)
        self.assertIs(type(source_of(SCRIPT, 1)), int)
        self.assertEqual({type(block) for block in blocks_of(SCRIPT).values()}, {tuple})

    def test_new_dict(self):
        first = blocks_of(SCRIPT)
        self.assertIs(type(first), dict)
        first[0] = (5,)
        del first[1]
        self.assertEqual(blocks_of(SCRIPT), EFFECT)
        self.assertEqual(block_of(SCRIPT, 1), (0, 2))


class SameBlocks(unittest.TestCase):
    def test_same_script(self):
        for script in sample_scripts():
            self.assertIs(same_blocks(script, script), True)
            self.assertIs(same_blocks(script, tuple(list(script))), True)

    def test_other_order(self):
        apart = (("behind", 0, 1), ("before", 2, 3), ("behind", 4, 5))
        for order in [(0, 2, 1), (1, 0, 2), (1, 2, 0), (2, 0, 1), (2, 1, 0)]:
            self.assertIs(same_blocks(apart, tuple([apart[at] for at in order])), True)
        self.assertIs(same_blocks((("behind", 0, 1), ("behind", 2, 1)), (("behind", 2, 1), ("behind", 0, 1))), False)
        self.assertIs(same_blocks((("behind", 0, 1), ("before", 2, 1)), (("before", 2, 1), ("behind", 0, 1))), True)

    def test_changed_command(self):
        self.assertIs(same_blocks((("behind", 0, 1),), (("before", 0, 1),)), False)
        self.assertIs(same_blocks((("behind", 0, 1),), (("before", 1, 0),)), False)
        self.assertIs(same_blocks((("behind", 0, 1),), (("behind", 1, 0),)), False)
        for at in range(3):
            changed = SCRIPT[:at] + (("before", *SCRIPT[at][1:]),) + SCRIPT[at + 1:]
            self.assertIs(same_blocks(SCRIPT, changed), slow_blocks(SCRIPT) == slow_blocks(changed))
            self.assertIs(same_blocks(changed, SCRIPT), slow_blocks(SCRIPT) == slow_blocks(changed))

    def test_only_the_order_in_a_block_differs(self):
        one = (("behind", 0, 5), ("behind", 1, 5))
        two = (("behind", 1, 5), ("behind", 0, 5))
        self.assertIs(same_blocks(one, two), False)

    def test_other_named_items(self):
        self.assertIs(same_blocks((("behind", 0, 1),), (("behind", 2, 3),)), False)
        self.assertIs(same_blocks((("behind", 0, 1),), (("behind", 0, 1), ("behind", 2, 3))), False)
        self.assertIs(same_blocks((("behind", 0, 1), ("behind", 2, 3)), (("behind", 0, 1),)), False)

    def test_other_named_items_with_the_same_blocks(self):
        # 1 is named by the first script, but is its own block.
        one = (("behind", 0, 1), ("behind", 0, 2))
        self.assertEqual(blocks_of(one)[1], (1,))
        self.assertIs(same_blocks(one, (("behind", 0, 2),)), True)
        self.assertIs(same_blocks((("behind", 0, 2),), one), True)
        self.assertIs(same_blocks(one, (("behind", 0, 3), ("behind", 0, 2))), True)
        self.assertIs(same_blocks(one, (("behind", 0, 59), ("behind", 0, 3))), False)

    def test_each_item_counts(self):
        for item in range(59):
            self.assertIs(same_blocks((("behind", item, 59),), (("before", item, 59),)), False)
            self.assertIs(same_blocks((("behind", 59, item),), (("before", 59, item),)), False)

    def test_pairs(self):
        commands = all_commands([0, 1, 2])
        scripts = [(one, two) for one in commands for two in commands][::5]
        for one in scripts:
            for two in scripts:
                expected = all(slow_blocks(one).get(item, (item,)) == slow_blocks(two).get(item, (item,))
                               for item in range(3))
                self.assertIs(same_blocks(one, two), expected)


class Joined(unittest.TestCase):
    def test_both_scripts_one_behind_the_other(self):
        for one, two in same_items_scripts(80):
            found = joined(blocks_of(one), blocks_of(two))
            self.assertEqual(found, blocks_of(one + two))
            self.assertEqual(found, slow_blocks(one + two))
            line = tuple(found)
            self.assertEqual(sum(found.values(), ()), after_script(after_script(line, one), two))

    def test_sixty_items(self):
        dice = Dice(13)
        one, two = dice.script(FULL_LINE, 200), dice.script(FULL_LINE, 200)
        self.assertEqual(items_of(one), items_of(two))
        line = tuple(dice.shuffled(FULL_LINE))
        found = joined(blocks_of(one), blocks_of(two))
        self.assertEqual(sum([found[item] for item in line], ()), after_script(after_script(line, one), two))

    def test_effects_of_no_script(self):
        self.assertEqual(joined({0: (1,), 1: (0,)}, {0: (1,), 1: (0,)}), {0: (0,), 1: (1,)})
        self.assertEqual(joined({0: (1,), 1: (2,), 2: (0,)}, {0: (), 1: (2, 0), 2: (1,)}),
                         {0: (2, 0), 1: (1,), 2: ()})
        self.assertEqual(joined({5: (5,)}, {5: (5,)}), {5: (5,)})

    def test_first_one_first(self):
        one, two = {0: (), 1: (0, 1)}, {0: (1, 0), 1: ()}
        self.assertEqual(joined(one, two), {0: (), 1: (1, 0)})
        self.assertEqual(joined(two, one), {0: (0, 1), 1: ()})

    def test_keys_in_any_order(self):
        dice = Dice(17)
        for one, two in same_items_scripts(30):
            effect, other = blocks_of(one), blocks_of(two)
            keys = list(effect)
            expected = joined(effect, other)
            self.assertEqual(list(expected), keys)
            for _ in range(4):
                found = joined({key: effect[key] for key in dice.shuffled(keys)},
                               {key: other[key] for key in dice.shuffled(keys)})
                self.assertEqual(list(found.items()), list(expected.items()))

    def test_arguments_unchanged_and_answer_new(self):
        effect, other = {2: (1,), 0: (), 1: (0, 2)}, {1: (1,), 2: (2,), 0: (0,)}
        before = copy.deepcopy([list(effect.items()), list(other.items())])
        found = joined(effect, other)
        self.assertIs(type(found), dict)
        self.assertEqual({type(block) for block in found.values()}, {tuple})
        self.assertEqual(list(found), [0, 1, 2])
        found[0] = (9,)
        del found[2]
        self.assertEqual([list(effect.items()), list(other.items())], before)
        same = joined(effect, effect)
        same[1] = ()
        self.assertEqual(list(effect.items()), before[0])
        self.assertEqual(joined(effect, other), EFFECT)


class BlockErrors(ErrorCase):
    def test_no_script(self):
        for script in BAD_SCRIPTS:
            self.check(NoScript, block_of, script, 0)
            self.check(NoScript, source_of, script, 0)
            self.check(NoScript, blocks_of, script)
            self.check(NoScript, same_blocks, script, SCRIPT)
            self.check(NoScript, same_blocks, SCRIPT, script)
            self.check(NoScript, same_blocks, script, script)

    def test_no_item(self):
        for item in BAD_ITEMS:
            self.check(NoItem, block_of, SCRIPT, item)
            self.check(NoItem, source_of, SCRIPT, item)

    def test_no_script_before_no_item(self):
        for script in BAD_SCRIPTS:
            for item in BAD_ITEMS[::4]:
                self.check(NoScript, block_of, script, item)
                self.check(NoScript, source_of, script, item)

    def test_no_effect(self):
        for effect in BAD_EFFECTS:
            self.check(NoEffect, joined, effect, EFFECT)
            self.check(NoEffect, joined, EFFECT, effect)
            self.check(NoEffect, joined, effect, effect)

    def test_not_alike(self):
        others = [{0: (0,)}, {0: (0,), 1: (1,)}, {0: (0,), 1: (1,), 3: (3,)}, {0: (), 1: (0, 1, 2, 3), 2: (), 3: ()},
                  {3: (3,)}, {item: (item,) for item in range(60)}]
        for other in others:
            self.check(NotAlike, joined, EFFECT, other)
            self.check(NotAlike, joined, other, EFFECT)

    def test_no_effect_before_not_alike(self):
        # Each of these has other items than the effect beside it, and is no effect.
        for effect in [{7: ()}, {0: (0,), 1: ()}, {0: (0,), 60: (60,)}]:
            self.check(NoEffect, joined, effect, EFFECT)
            self.check(NoEffect, joined, EFFECT, effect)

    def test_calls_go_on_after_an_error(self):
        self.check(NotAlike, joined, EFFECT, {0: (0,)})
        self.assertEqual(joined(EFFECT, EFFECT), {0: (), 1: (1,), 2: (0, 2)})


if __name__ == "__main__":
    unittest.main()
