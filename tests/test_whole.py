"""[2] to [4] over all modules together."""

import copy
import itertools
import math
import unittest

from moveafter import blocks, friends, lines, plans, relations, repeats, starts, texts
from moveafter.console import Console
from moveafter.errors import MoveError
from moveafter.live import LiveLine
from tests.samples import (FULL_LINE, KEYWORDS, SCRIPT, STRANGE, Dice, chain_script, lines_of, ring_script,
                           sample_friends, sample_scripts, slow_after, slow_items, small_scripts)

MOST = 10 ** 30

EFFECT = {0: (), 1: (0, 2), 2: (1,)}

# Each function with arguments of which it raises no error.
CALLS = [
    (lines.is_line, {"value": (0,)}), (lines.is_command, {"value": SCRIPT[0]}), (lines.is_script, {"value": SCRIPT}),
    (lines.moved, {"line": (2, 0, 1), "command": SCRIPT[0]}),
    (lines.after_script, {"line": (2, 0, 1), "script": SCRIPT}), (lines.items_of, {"script": SCRIPT}),
    (blocks.block_of, {"script": SCRIPT, "item": 1}), (blocks.source_of, {"script": SCRIPT, "item": 1}),
    (blocks.blocks_of, {"script": SCRIPT}), (blocks.same_blocks, {"script": SCRIPT, "other_script": SCRIPT[:1]}),
    (blocks.is_effect, {"value": EFFECT}), (blocks.joined, {"effect": EFFECT, "other_effect": EFFECT}),
    (repeats.after_times, {"line": (2, 0, 1), "script": SCRIPT, "times": 2}),
    (repeats.blocks_after, {"script": SCRIPT, "times": 2}), (repeats.settled_after, {"script": SCRIPT}),
    (repeats.final_blocks, {"script": SCRIPT}), (repeats.rings_of, {"script": SCRIPT}),
    (repeats.period, {"script": SCRIPT}),
    (relations.relation, {"script": SCRIPT, "item": 0, "other": 1, "times": 2}),
    (relations.deciding, {"script": SCRIPT, "item": 0, "other": 1, "times": 2}),
    (relations.relation_with, {"script": SCRIPT, "item": 0, "other": 1, "known": ((1, 2),), "times": 2}),
    (starts.count_ends, {"script": SCRIPT, "times": 2}),
    (starts.count_starts, {"line": (0, 2, 1), "script": SCRIPT, "times": 2}),
    (starts.nth_start, {"line": (0, 2, 1), "script": SCRIPT, "number": 0, "times": 2}),
    (starts.start_number, {"line": (0, 2, 1), "script": SCRIPT, "times": 2}),
    (plans.is_possible, {"effect": EFFECT}), (plans.fewest_commands, {"effect": EFFECT}),
    (plans.plan_for, {"effect": EFFECT}), (plans.has_effect, {"script": SCRIPT, "effect": EFFECT}),
    (plans.count_effects, {"size": 3}), (plans.fewest_moves, {"line": (0, 1, 2), "target": (2, 0, 1)}),
    (plans.moves_for, {"line": (0, 1, 2), "target": (2, 0, 1)}),
    (friends.is_friends, {"value": {0: 1, 1: None}}), (friends.day_script, {"friends": {0: 1, 1: None}}),
    (friends.after_days, {"line": (1, 2, 0), "friends": {0: 1, 1: None}, "days": 2}),
    (friends.count_final, {"friends": {0: 1, 1: None}}), (friends.days_needed, {"friends": {0: 1, 1: None}}),
    (friends.day_period, {"friends": {0: 1, 1: None}}),
    (texts.show_line, {"line": (0, 1)}), (texts.read_line, {"text": "0 1"}),
    (texts.show_script, {"script": SCRIPT}), (texts.read_script, {"text": "0>1"}),
    (LiveLine, {"line": (0, 1)}),
]


def call(function, arguments):
    by_position = [value for name, value in arguments.items() if name not in KEYWORDS]
    return function(*by_position, **{name: value for name, value in arguments.items() if name in KEYWORDS})


def listed(value):
    """Return the lists and dicts in a value, itself included."""
    if isinstance(value, dict):
        return [value, *[part for inner in value.values() for part in listed(inner)]]
    if isinstance(value, (list, tuple)):
        inside = [part for inner in value for part in listed(inner)]
        return [value, *inside] if isinstance(value, list) else inside
    return []


class Calls(unittest.TestCase):
    def test_all_parameters_take_any_value(self):
        for function, arguments in CALLS:
            for name in arguments:
                for value in STRANGE:
                    shown = repr(value)
                    try:
                        call(function, {**arguments, name: value})
                    except MoveError as error:
                        self.assertEqual(type(error).__bases__, (MoveError,))
                    self.assertEqual(repr(value), shown)

    def test_arguments_and_answers(self):
        for function, arguments in CALLS:
            before = copy.deepcopy(arguments)
            first, second = call(function, arguments), call(function, arguments)
            self.assertEqual(first, second)
            self.assertEqual(repr(arguments), repr(before))
            for one, two in itertools.product(listed(first), [*listed(second), *listed(list(arguments.values()))]):
                self.assertIsNot(one, two, function)

    def test_answers_that_are_spoiled(self):
        for function, arguments in CALLS:
            expected = call(function, arguments)
            for found in listed(call(function, arguments)):
                found.clear()
            self.assertEqual(call(function, arguments), expected)

    def test_interwoven_calls(self):
        # Results depend on the arguments alone, whatever was called before.
        expected = [call(function, arguments) for function, arguments in CALLS]
        for at in Dice(101).shuffled(range(len(CALLS))):
            function, arguments = CALLS[at]
            self.assertEqual(call(function, arguments), expected[at])

    def test_keys_ascend(self):
        dice = Dice(102)
        for script in sample_scripts():
            effect = {**{item: (item,) for item in FULL_LINE}, **blocks.blocks_of(script)}
            shuffled = {item: effect[item] for item in dice.shuffled(effect)}
            for found in [blocks.blocks_of(script), repeats.blocks_after(script, times=3),
                          blocks.joined(shuffled, effect), blocks.joined(effect, shuffled)]:
                self.assertEqual(list(found), sorted(found))


class PassedBack(unittest.TestCase):
    def test_values(self):
        dice = Dice(103)
        for script in sample_scripts():
            line = tuple(dice.shuffled(FULL_LINE))
            present = repeats.after_times(line, script, times=dice.roll(10 ** 9))
            self.assertIs(lines.is_line(present), True)
            self.assertEqual(texts.read_line(texts.show_line(present)), present)
            moves = plans.moves_for(line, present)
            self.assertEqual(lines.after_script(line, moves) if moves else line, present)
            effect = repeats.blocks_after(script, times=dice.roll(50))
            plan = plans.plan_for(effect)
            self.assertEqual(len(plan), plans.fewest_commands(effect))
            if plan:
                self.assertEqual(texts.read_script(texts.show_script(plan)), plan)
                self.assertIs(plans.has_effect(plan, effect), True)
                live = LiveLine(line)
                self.assertEqual(live.run(plan), lines.after_script(line, plan))
                self.assertEqual(live.preview(*plan[:12]), lines.after_script(live.line, plan[:12]))

    def test_days(self):
        dice = Dice(104)
        for found in sample_friends():
            script = friends.day_script(found)
            line = tuple(dice.shuffled(FULL_LINE))
            live = LiveLine(line)
            if script:
                self.assertEqual(live.run(script, times=MOST), friends.after_days(line, found, days=MOST))
                self.assertEqual(live.log(), [("run", script, MOST)])
                self.assertLessEqual(plans.fewest_commands(blocks.blocks_of(script)), len(script))


class MainResults(unittest.TestCase):
    def test_blocks_do_not_depend_on_the_line(self):
        dice = Dice(105)
        for script in sample_scripts():
            for many in [0, 60]:
                line = tuple(dice.shuffled(sorted({*slow_items(script), *FULL_LINE[:many]})))
                found = [blocks.block_of(script, item) for item in line]
                self.assertEqual(sum(found, ()), slow_after(line, script))
                console = Console()
                rows = [f"line {texts.show_line(line)}", f"script {texts.show_script(script)}", "run 1"]
                self.assertEqual([console.say(row) for row in rows][-1], texts.show_line(sum(found, ())))

    def test_repeated_scripts(self):
        # The final blocks stand in some order, R! lines are possible, and each comes again after the period.
        for script in small_scripts():
            items = slow_items(script)
            needed, turn = repeats.settled_after(script), repeats.period(script)
            final = repeats.final_blocks(script)
            orders = {sum(order, ()) for order in itertools.permutations(final)}
            for times in [needed, needed + 1, needed + 5, MOST]:
                ends = {repeats.after_times(line, script, times=times) for line in lines_of(items)}
                self.assertEqual(ends, orders)
                self.assertEqual(len(ends), math.factorial(len(final)))
                self.assertEqual(starts.count_ends(script, times=times), len(ends))
            for line in orders:
                self.assertEqual(slow_after(line, script * turn), line)

    def test_long_repeated_scripts(self):
        dice = Dice(106)
        scripts = [ring_script(dice.shuffled(FULL_LINE), lengths) for lengths in [[2, 3, 5, 7], [20, 21], [2] * 29]]
        for script in [*scripts, chain_script(FULL_LINE), dice.script(FULL_LINE, 200)]:
            live = LiveLine(tuple(dice.shuffled(FULL_LINE)))
            live.run(script, times=repeats.settled_after(script))
            settled = live.line
            self.assertEqual(live.run(script, times=repeats.period(script)), settled)
            self.assertEqual(live.run(script, times=MOST - MOST % repeats.period(script)), settled)
            others = [(item,) for item in FULL_LINE if item not in slow_items(script)]
            final = repeats.final_blocks(script) + others
            rest = settled
            while rest:
                block = [block for block in final if rest[:len(block)] == block]
                self.assertEqual(len(block), 1)
                rest = rest[len(block[0]):]

    def test_possible_effects(self):
        # An effect is possible if one of its blocks is empty, or every item is its own block.
        own = {item: (item,) for item in FULL_LINE}
        self.assertEqual(plans.plan_for(own), ())
        for script in sample_scripts():
            effect = {**own, **blocks.blocks_of(script)}
            self.assertIs(plans.is_possible(effect), True)
            self.assertEqual(() in effect.values() or effect == own, True)
        turned = {item: ((item + 1) % 60,) for item in FULL_LINE}
        self.assertIs(plans.is_possible(turned), False)
        self.assertIs(plans.is_possible({**turned, 58: (59, 0), 59: ()}), True)


if __name__ == "__main__":
    unittest.main()
