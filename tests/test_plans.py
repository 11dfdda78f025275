"""[2], [3], [4], [11], section 9: effects that are possible, plans and moves."""

import bisect
import collections
import copy
import unittest

from moveafter.blocks import blocks_of, is_effect
from moveafter.errors import Impossible, NoEffect, NoLine, NoScript, NoSize, NotAlike
from moveafter.lines import is_command, is_script
from moveafter.plans import (count_effects, fewest_commands, fewest_moves, has_effect, is_possible, moves_for,
                             plan_for)
from tests.samples import (BAD_EFFECTS, BAD_LINES, BAD_SCRIPTS, FULL_LINE, SCRIPT, STRANGE, Dice, ErrorCase,
                           all_commands, lines_of, sample_scripts, slow_after, slow_blocks, slow_moved, slow_sources,
                           small_scripts)

EFFECT = {0: (), 1: (0, 2), 2: (1,)}

IMPOSSIBLE = [{0: (1,), 1: (0,)}, {0: (1,), 1: (2,), 2: (0,)}, {0: (0,), 4: (9,), 9: (4,)},
              {item: ((item + 1) % 60,) for item in FULL_LINE}]


def own_blocks(items):
    return {item: (item,) for item in items}


def moved_in(effect, command):
    """Return the effect after one more command, as tuples of items and blocks."""
    word, item, other = command
    found = {}
    for key, block in effect.items():
        rest = [part for part in block if part != item]
        if other in rest:
            rest.insert(rest.index(other) + (word == "behind"), item)
        found[key] = tuple(rest)
    return found


def tried_effects(items):
    """Return the effects of all scripts, each with the least number of commands, by trying one command more each time.

    An effect stands in it as the tuple of the blocks of the items in order.
    """
    first = own_blocks(items)
    least = {tuple(first.values()): 0}
    waiting = collections.deque([first])
    while waiting:
        effect = waiting.popleft()
        for command in all_commands(items):
            found = moved_in(effect, command)
            if tuple(found.values()) not in least:
                least[tuple(found.values())] = least[tuple(effect.values())] + 1
                waiting.append(found)
    return least


def all_effects(items):
    """Return all effects of the items, possible or not: cut each order of them into blocks in all ways."""
    cuts = [[]]
    for _ in items[1:]:
        cuts = [[*cut, at] for cut in cuts for at in range(cut[-1] if cut else 0, len(items) + 1)]
    return [dict(zip(items, [line[low:high] for low, high in zip([0, *cut], [*cut, len(items)])]))
            for line in lines_of(items) for cut in cuts]


def random_effect(dice, items, keys):
    """Return an effect of the items in which the blocks of all but these keys are empty."""
    blocks = {item: [] for item in items}
    for item in dice.shuffled(items):
        blocks[keys[dice.roll(len(keys))]].append(item)
    return {item: tuple(block) for item, block in blocks.items()}


def ring_effect(items, lengths):
    """Return an effect with rings that stand alone. The first of the other items is in the last one's block."""
    rest = list(items)
    effect = {}
    for length in lengths:
        ring, rest = rest[:length], rest[length:]
        effect.update({item: (part,) for item, part in zip(ring, ring[1:] + ring[:1])})
    effect.update(own_blocks(rest[1:]))
    return {**effect, rest[0]: (), rest[-1]: (rest[0], rest[-1])}


def slow_fewest(effect):
    """Count the items that are not in their own block and the rings that stand alone."""
    sources = slow_sources(effect)
    many = len([item for item in effect if sources[item] != item])
    for item in effect:
        ring = [item]
        while sources[ring[-1]] not in ring:
            ring.append(sources[ring[-1]])
        if sources[ring[-1]] == item == min(ring) and len(ring) > 1:
            many += all(len(effect[part]) == 1 for part in ring)
    return many


class PlanCase(unittest.TestCase):
    def check_plan(self, effect, expected):
        keys = list(effect.items())
        self.assertIs(is_possible(effect), True)
        self.assertEqual(fewest_commands(effect), expected)
        plan = plan_for(effect)
        self.assertEqual(list(effect.items()), keys)
        self.assertIs(type(plan), tuple)
        self.assertEqual(len(plan), expected)
        if plan:
            self.assertIs(is_script(plan), True)
            self.assertIs(has_effect(plan, effect), True)
            self.assertEqual({**own_blocks(effect), **blocks_of(plan)}, effect)
            self.assertEqual({**own_blocks(effect), **slow_blocks(plan)}, effect)
        else:
            self.assertEqual(effect, own_blocks(effect))


class SmallPlans(PlanCase):
    def test_compared_with_trying(self):
        dice = Dice(81)
        for items in [[0], [59], [3, 8], [0, 1, 2], [7, 20, 59], [0, 1, 2, 3]]:
            least = tried_effects(items)
            for effect in all_effects(items):
                self.assertIs(is_effect(effect), True)
                expected = least.get(tuple(effect.values()))
                shuffled = {item: effect[item] for item in dice.shuffled(effect)}
                if expected is None:
                    self.assertIs(is_possible(shuffled), False)
                    for function in [fewest_commands, plan_for]:
                        with self.assertRaises(Impossible):
                            function(shuffled)
                else:
                    self.check_plan(shuffled, expected)

    def test_rings_of_two_pairs(self):
        # Six commands alone do not do: each ring needs one more.
        effect = {0: (1,), 1: (0,), 2: (3,), 3: (2,), 4: (), 5: (5, 4)}
        self.check_plan(effect, 7)

    def test_ring_that_does_not_stand_alone(self):
        self.check_plan({0: (1, 2), 1: (0,), 2: ()}, 3)
        self.check_plan({0: (1,), 1: (2, 0), 2: ()}, 3)
        self.check_plan({0: (1,), 1: (0,), 2: (2, 3), 3: ()}, 4)

    def test_effects_of_scripts(self):
        for scripts in [small_scripts(), sample_scripts()]:
            for script in scripts:
                effect = slow_blocks(script)
                self.assertIs(has_effect(script, effect), True)
                self.check_plan(effect, slow_fewest(effect))
                self.assertLessEqual(fewest_commands(effect), len(script))


class LongPlans(PlanCase):
    def test_own_blocks(self):
        for many in range(1, 61):
            self.check_plan(own_blocks(FULL_LINE[:many]), 0)
        self.assertEqual(plan_for({0: (0,)}), ())

    def test_many_rings(self):
        dice = Dice(82)
        for lengths in [[2], [3], [2, 2], [2, 3, 4], [2] * 29, [3] * 19, [58], [29, 29], [2, 3, 5, 7, 11, 13, 17]]:
            for _ in range(5):
                effect = ring_effect(dice.shuffled(FULL_LINE), lengths)
                self.check_plan(effect, sum(lengths) + len(lengths) + 1)
                self.assertEqual(fewest_commands(effect), slow_fewest(effect))
        self.assertEqual(fewest_commands(ring_effect(FULL_LINE, [2] * 29)), 88)

    def test_rings_with_more_in_a_block(self):
        # One item more in the block of one item of each ring, so that no ring stands alone.
        dice = Dice(83)
        for lengths in [[2], [2, 2], [5, 4, 3], [2] * 19, [40]]:
            items = dice.shuffled(FULL_LINE)
            effect = ring_effect(items, lengths)
            at, rest = 0, items[sum(lengths) + 1:-1]
            for length in lengths:
                if rest:
                    extra = rest.pop()
                    first = items[at + dice.roll(length)]
                    effect[first] = tuple(dice.shuffled([*effect[first], extra]))
                    effect[extra] = ()
                at += length
            self.check_plan(effect, slow_fewest(effect))

    def test_random_effects(self):
        dice = Dice(84)
        for many in [1, 2, 3, 10, 30, 45, 55, 58, 59]:
            for _ in range(6):
                keys = dice.some(FULL_LINE, many)
                effect = random_effect(dice, FULL_LINE, keys)
                self.check_plan(effect, slow_fewest(effect))

    def test_nearly_own_blocks(self):
        dice = Dice(85)
        for _ in range(30):
            item, other = dice.some(FULL_LINE, 2)
            for block in [(item, other), (other, item)]:
                self.check_plan({**own_blocks(FULL_LINE), item: (), other: block}, 1)

    def test_one_block(self):
        dice = Dice(86)
        for key in [0, 31, 59]:
            block = tuple(dice.shuffled(FULL_LINE))
            self.check_plan({item: block if item == key else () for item in FULL_LINE}, 59)

    def test_chain(self):
        # A ring of all items but 59, which stands in one of its blocks.
        effect = {item: (item + 1,) for item in FULL_LINE[:-2]}
        self.check_plan({**effect, 58: (0, 59), 59: ()}, 60)

    def test_impossible(self):
        for effect in IMPOSSIBLE:
            self.assertIs(is_possible(effect), False)

    def test_order_of_keys_does_not_matter(self):
        dice = Dice(87)
        rings = ring_effect(FULL_LINE, [2, 3, 4])
        # Several blocks are empty, so that there is a choice for the rings.
        several = {**rings, 20: (), 21: (21, 20), 30: (), 31: (30, 31)}
        for effect in [rings, several, random_effect(dice, FULL_LINE, FULL_LINE[::2])]:
            plan = plan_for(effect)
            for _ in range(10):
                shuffled = {item: effect[item] for item in dice.shuffled(effect)}
                self.assertEqual(plan_for(shuffled), plan)
                self.assertEqual(fewest_commands(shuffled), len(plan))


class HasEffect(unittest.TestCase):
    def test_own_effect(self):
        for script in sample_scripts():
            effect = blocks_of(script)
            self.assertIs(has_effect(script, effect), True)
            self.assertIs(has_effect(script, {item: effect[item] for item in reversed(effect)}), True)

    def test_items_that_the_script_does_not_name(self):
        self.assertIs(has_effect(SCRIPT, {**EFFECT, 5: (5,)}), True)
        self.assertIs(has_effect(SCRIPT, {**EFFECT, **own_blocks(range(3, 60))}), True)
        self.assertIs(has_effect(SCRIPT, {**EFFECT, 5: (6,), 6: (5,)}), False)
        self.assertIs(has_effect(SCRIPT, {**EFFECT, 5: (5, 6), 6: ()}), False)
        self.assertIs(has_effect(SCRIPT, {0: (), 1: (0, 2), 2: (1, 5), 5: ()}), False)

    def test_items_that_are_no_keys(self):
        # 1 is named, and it is its own block.
        script = (("behind", 0, 1), ("behind", 0, 2))
        self.assertIs(has_effect(script, {0: (), 2: (2, 0)}), False)
        self.assertIs(has_effect(script, {0: (), 1: (1,), 2: (2, 0)}), True)
        self.assertIs(has_effect(SCRIPT, {5: (5,)}), False)
        self.assertIs(has_effect(SCRIPT, {1: (1,), 2: (2,)}), False)

    def test_other_effects(self):
        for effect in all_effects([0, 1, 2]):
            self.assertIs(has_effect(SCRIPT, effect), effect == EFFECT)

    def test_pairs(self):
        scripts = list(small_scripts())[:150:3]
        for script in scripts:
            for other in scripts:
                effect = {**own_blocks([0, 1, 2]), **slow_blocks(other)}
                self.assertIs(has_effect(script, effect), {**own_blocks([0, 1, 2]), **slow_blocks(script)} == effect)

    def test_effect_that_is_not_possible(self):
        for effect in IMPOSSIBLE:
            self.assertIs(has_effect(SCRIPT, effect), False)


class CountEffects(unittest.TestCase):
    def test_compared_with_counting(self):
        for size in range(1, 5):
            effects = all_effects(range(size))
            self.assertEqual(count_effects(size), len([effect for effect in effects if is_possible(effect)]))
            self.assertEqual(count_effects(size), len(tried_effects(range(size))))

    def test_five(self):
        self.assertEqual(count_effects(5), len([None for effect in all_effects(range(5)) if is_possible(effect)]))

    def test_all_sizes(self):
        # Put the items in one by one: behind k items are k places and size bounds of blocks, size + k ways in all.
        for size in range(1, 61):
            effects, orders = 1, 1
            for many in range(size):
                effects *= size + many
                orders *= many + 1
            self.assertEqual(count_effects(size), effects - orders + 1)
            self.assertIs(type(count_effects(size)), int)


class MovesCase(unittest.TestCase):
    def check_moves(self, line, target, expected):
        self.assertEqual(fewest_moves(line, target), expected)
        moves = moves_for(line, target)
        self.assertIs(type(moves), tuple)
        self.assertEqual(len(moves), expected)
        for command in moves:
            self.assertIs(is_command(command), True)
        self.assertEqual(slow_after(line, moves), target)


class Moves(MovesCase):
    def tried_moves(self, line):
        """Return the least number of commands to each line of the same items, by trying one more each time."""
        least = {line: 0}
        waiting = collections.deque([line])
        while waiting:
            present = waiting.popleft()
            for command in all_commands(line):
                found = slow_moved(present, command)
                if found not in least:
                    least[found] = least[present] + 1
                    waiting.append(found)
        return least

    def test_compared_with_trying(self):
        for items in [[5], [59, 0], [0, 1, 2], [9, 58, 3], [0, 1, 2, 3]]:
            for line in lines_of(items):
                for target, expected in self.tried_moves(line).items():
                    self.check_moves(line, target, expected)

    def test_five_items(self):
        for line in lines_of(range(5))[::23]:
            for target, expected in self.tried_moves(line).items():
                self.check_moves(line, target, expected)

    def test_same_line(self):
        for many in range(1, 61):
            self.check_moves(FULL_LINE[:many], FULL_LINE[:many], 0)

    def test_long_lines(self):
        dice = Dice(91)
        for size in [2, 6, 20, 59, 60]:
            for _ in range(15):
                line = tuple(dice.some(FULL_LINE, size))
                target = tuple(dice.shuffled(line))
                # The last items of ascending rows of each length, as small as they can be.
                ends = []
                for place in [target.index(item) for item in line]:
                    at = bisect.bisect_left(ends, place)
                    ends[at:at + 1] = [place]
                self.check_moves(line, target, size - len(ends))

    def test_turned_and_shifted_lines(self):
        for many in range(2, 61):
            line = FULL_LINE[:many]
            self.check_moves(line, line[::-1], many - 1)
            self.check_moves(line, line[1:] + line[:1], 1)
            self.check_moves(line, line[-1:] + line[:-1], 1)
            half = many // 2
            self.check_moves(line, line[half:] + line[:half], half)


class PlanErrors(ErrorCase):
    def test_is_possible(self):
        self.check_faults(is_possible, {"effect": EFFECT}, [(NoEffect, "effect", BAD_EFFECTS)])

    def test_fewest_commands_and_plan_for(self):
        for function in [fewest_commands, plan_for]:
            self.check_faults(function, {"effect": EFFECT}, [
                (NoEffect, "effect", BAD_EFFECTS), (Impossible, "effect", IMPOSSIBLE),
            ])

    def test_no_effect_before_impossible(self):
        # No block is empty, but these are no effects.
        for effect in [{0: (1,), 1: (1,)}, {0: (1,), 1: (60,)}, {0: [1], 1: [0]}, {0: (True,), 1: (0,)}]:
            for function in [is_possible, fewest_commands, plan_for]:
                self.check(NoEffect, function, effect)

    def test_has_effect(self):
        self.check_faults(has_effect, {"script": SCRIPT, "effect": EFFECT}, [
            (NoScript, "script", BAD_SCRIPTS), (NoEffect, "effect", BAD_EFFECTS),
        ])
        self.check(NoScript, has_effect, (), {0: (0,)})

    def test_count_effects(self):
        sizes = [value for value in STRANGE if value != 60]
        self.check_faults(count_effects, {"size": 3}, [
            (NoSize, "size", [*sizes, 0, -1, 61, 62, 10 ** 30, -60, "3", (3,), [3], True, False]),
        ])
        for size in [1, 60]:
            count_effects(size)

    def test_moves(self):
        for function in [fewest_moves, moves_for]:
            self.check_faults(function, {"line": (0, 1, 2), "target": (2, 0, 1)}, [
                (NoLine, "line", BAD_LINES),
                (NoLine, "target", BAD_LINES),
                (NotAlike, "target", [(0,), (0, 1), (0, 1, 3), (0, 1, 2, 3), FULL_LINE, (5, 6, 7)]),
                (NotAlike, "line", [(9,), (0, 9), (0, 1, 9), (0, 1, 2, 9), FULL_LINE[:59], (5, 6, 9)]),
            ])

    def test_arguments_unchanged_and_answers_new(self):
        effect = {2: (1,), 0: (), 3: (3,), 1: (0, 2)}
        before = copy.deepcopy(list(effect.items()))
        for function in [is_possible, fewest_commands, plan_for]:
            first, second = function(effect), function(effect)
            self.assertEqual(first, second)
            self.assertEqual(list(effect.items()), before)
        has_effect(SCRIPT, effect)
        self.assertEqual(list(effect.items()), before)

    def test_calls_go_on_after_an_error(self):
        self.check(Impossible, plan_for, {0: (1,), 1: (0,)})
        self.assertEqual(plan_for({0: (0, 1), 1: ()}), (("behind", 1, 0),))


if __name__ == "__main__":
    unittest.main()
