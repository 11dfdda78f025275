"""The examples of the document, as they stand in it."""

import doctest
import pathlib
import unittest

README = pathlib.Path(__file__).parent.parent / "README.md"

EXAMPLES = {
    "4 is_line, is_command, is_script": """
>>> from moveafter.lines import is_command, is_line, is_script
>>> [is_line((3, 0)), is_line((3, 3)), is_command(("behind", 1, 2)), is_command(("behind", 1, 1)), is_script(())]
[True, False, True, False, False]
""",
    "4 moved": """
>>> from moveafter.lines import moved
>>> [moved((0, 1, 2), ("behind", 0, 1)), moved((0, 1, 2), ("before", 2, 0))]
[(1, 0, 2), (2, 0, 1)]
""",
    "4 after_script": """
>>> from moveafter.lines import after_script
>>> script = (("behind", 0, 1), ("behind", 1, 2), ("behind", 2, 0))
>>> [after_script((0, 1, 2), script), after_script((2, 9, 1, 0), script)]
[(0, 2, 1), (1, 9, 0, 2)]
""",
    "4 lines_from": """
>>> from moveafter.lines import lines_from
>>> script = (("behind", 0, 1), ("behind", 1, 2), ("behind", 2, 0))
>>> [line for turn, line in zip(range(4), lines_from((0, 1, 2), script))]
[(0, 1, 2), (0, 2, 1), (1, 0, 2), (0, 2, 1)]
""",
    "4 items_of": """
>>> from moveafter.lines import items_of
>>> items_of((("behind", 7, 1), ("before", 1, 4)))
[1, 4, 7]
""",
    "5 block_of, source_of": """
>>> from moveafter.blocks import block_of, source_of
>>> script = (("behind", 0, 1), ("behind", 1, 2), ("behind", 2, 0))
>>> [block_of(script, item) for item in [0, 1, 2, 9]]
[(), (0, 2), (1,), (9,)]
>>> [source_of(script, item) for item in [0, 1, 2, 9]]
[1, 2, 1, 9]
""",
    "5 blocks_of": """
>>> from moveafter.blocks import blocks_of
>>> blocks_of((("behind", 0, 1), ("behind", 1, 2), ("behind", 2, 0)))
{0: (), 1: (0, 2), 2: (1,)}
""",
    "5 same_blocks": """
>>> from moveafter.blocks import same_blocks
>>> one, two = (("behind", 0, 1),), (("before", 1, 0), ("behind", 0, 1))
>>> [same_blocks(one, one), same_blocks(one, two)]
[True, False]
""",
    "5 is_effect": """
>>> from moveafter.blocks import is_effect
>>> [is_effect({0: (), 1: (0, 1)}), is_effect({0: (1,)}), is_effect({})]
[True, False, False]
""",
    "5 joined": """
>>> from moveafter.blocks import joined
>>> effect = {0: (), 1: (0, 2), 2: (1,)}
>>> joined(effect, effect)
{0: (), 1: (1,), 2: (0, 2)}
""",
    "6 after_times": """
>>> from moveafter.repeats import after_times
>>> script = (("behind", 0, 1), ("behind", 1, 2), ("behind", 2, 0))
>>> [after_times((0, 1, 2), script, times=times) for times in [0, 1, 2, 10 ** 30]]
[(0, 1, 2), (0, 2, 1), (1, 0, 2), (1, 0, 2)]
""",
    "6 blocks_after": """
>>> from moveafter.repeats import blocks_after
>>> script = (("behind", 0, 1), ("behind", 1, 2), ("behind", 2, 0))
>>> [blocks_after(script, times=times) for times in [0, 2]]
[{0: (0,), 1: (1,), 2: (2,)}, {0: (), 1: (1,), 2: (0, 2)}]
""",
    "6 settled_after, final_blocks": """
>>> from moveafter.repeats import final_blocks, settled_after
>>> script = (("behind", 0, 1), ("behind", 1, 2), ("behind", 2, 0))
>>> [settled_after(script), final_blocks(script), final_blocks((("behind", 0, 1), ("behind", 1, 2)))]
[1, [(0, 2), (1,)], [(2, 1, 0)]]
""",
    "6 rings_of, period": """
>>> from moveafter.repeats import period, rings_of
>>> script = (("behind", 0, 1), ("behind", 1, 2), ("behind", 2, 0))
>>> [rings_of(script), period(script), rings_of((("behind", 0, 1),))]
[[[1, 2]], 2, [[1]]]
""",
    "7 relation": """
>>> from moveafter.relations import relation
>>> script = (("behind", 0, 1), ("behind", 1, 2), ("behind", 2, 0))
>>> [relation(script, 0, 2), relation(script, 2, 0), relation(script, 0, 1), relation(script, 0, 9)]
['ahead', 'behind', 'open', 'open']
""",
    "7 deciding": """
>>> from moveafter.relations import deciding
>>> script = (("behind", 0, 1), ("behind", 1, 2), ("behind", 2, 0))
>>> [deciding(script, 0, 1), deciding(script, 0, 9, times=2), deciding(script, 0, 2)]
[(1, 2), (2, 9), None]
""",
    "7 relation_with": """
>>> from moveafter.relations import relation_with
>>> script = (("behind", 0, 1), ("behind", 1, 2), ("behind", 2, 0))
>>> [relation_with(script, 0, 1, known) for known in [(), ((1, 2),), ((2, 7), (7, 1))]]
['open', 'ahead', 'behind']
""",
    "8 count_ends": """
>>> from moveafter.starts import count_ends
>>> script = (("behind", 0, 1), ("behind", 1, 2), ("behind", 2, 0))
>>> [count_ends(script, times=times) for times in [0, 1, 10 ** 30]]
[6, 2, 2]
""",
    "8 count_starts": """
>>> from moveafter.starts import count_starts
>>> script = (("behind", 0, 1), ("behind", 1, 2), ("behind", 2, 0))
>>> [count_starts(line, script) for line in [(0, 2, 1), (2, 0, 1), (1, 0, 2, 9)]]
[3, 0, 4]
""",
    "8 nth_start, start_number": """
>>> from moveafter.starts import nth_start, start_number
>>> script = (("behind", 0, 1), ("behind", 1, 2), ("behind", 2, 0))
>>> [nth_start((0, 2, 1), script, number) for number in [0, 1, 2]]
[(0, 1, 2), (1, 0, 2), (1, 2, 0)]
>>> start_number((1, 0, 2), script)
1
""",
    "9 is_possible": """
>>> from moveafter.plans import is_possible
>>> [is_possible(effect) for effect in [{0: (), 1: (0, 1)}, {0: (0,), 1: (1,)}, {0: (1,), 1: (0,)}]]
[True, True, False]
""",
    "9 fewest_commands, plan_for": """
>>> from moveafter.plans import fewest_commands, plan_for
>>> effects = [{0: (), 1: (0, 2), 2: (1,)}, {0: (1,), 1: (0,), 2: (2, 3), 3: ()}, {0: (0,)}]
>>> [fewest_commands(effect) for effect in effects]
[3, 4, 0]
>>> plan_for({0: (0, 1), 1: ()})
(('behind', 1, 0),)
""",
    "9 has_effect": """
>>> from moveafter.plans import has_effect
>>> script = (("behind", 0, 1), ("behind", 1, 2), ("behind", 2, 0))
>>> [has_effect(script, {0: (), 1: (0, 2), 2: (1,)}), has_effect(script, {0: (), 1: (0, 2), 2: (1,), 5: (5,)})]
[True, True]
""",
    "9 count_effects": """
>>> from moveafter.plans import count_effects
>>> [count_effects(size) for size in [1, 2, 3, 4]]
[1, 5, 55, 817]
""",
    "9 fewest_moves, moves_for": """
>>> from moveafter.plans import fewest_moves, moves_for
>>> [fewest_moves((0, 1, 2, 3), (3, 0, 1, 2)), moves_for((0, 1, 2, 3), (3, 0, 1, 2)), fewest_moves((2, 1, 0), (0, 1, 2))]
[1, (('before', 3, 0),), 2]
""",
    "10 is_friends": """
>>> from moveafter.friends import is_friends
>>> [is_friends({0: 1, 1: None}), is_friends({0: 0}), is_friends({0: 1})]
[True, False, False]
""",
    "10 day_script": """
>>> from moveafter.friends import day_script
>>> day_script({0: 1, 1: 2, 2: None})
(('behind', 0, 1), ('behind', 1, 2))
""",
    "10 after_days": """
>>> from moveafter.friends import after_days
>>> [after_days((0, 1, 2), {0: 1, 1: 2, 2: None}, days=days) for days in [1, 2, 10 ** 30]]
[(0, 2, 1), (2, 1, 0), (2, 1, 0)]
""",
    "10 count_final, days_needed, day_period": """
>>> from moveafter.friends import count_final, day_period, days_needed
>>> ring, way = {0: 1, 1: 2, 2: 0}, {0: 1, 1: 2, 2: None}
>>> [[count_final(friends), days_needed(friends), day_period(friends)] for friends in [ring, way]]
[[2, 1, 2], [1, 2, 1]]
""",
    "11 LiveLine": """
>>> from moveafter.live import LiveLine
>>> live = LiveLine((2, 0, 1))
>>> [live.line, live.first, live.last, len(live), LiveLine.ITEMS]
[(2, 0, 1), 2, 1, 3, 60]
""",
    "11 LiveLine.of": """
>>> from moveafter.live import LiveLine
>>> LiveLine.of(2, 0).line
(2, 0)
""",
    "11 LiveLine.behind, LiveLine.before": """
>>> from moveafter.live import LiveLine
>>> live = LiveLine.of(0, 1, 2)
>>> [live.behind(0, 2), live.before(0, 1)]
[(1, 2, 0), (0, 1, 2)]
""",
    "11 LiveLine.run": """
>>> from moveafter.live import LiveLine
>>> live = LiveLine.of(0, 1, 2)
>>> live.run((("behind", 0, 1), ("behind", 1, 2), ("behind", 2, 0)), times=10 ** 30)
(1, 0, 2)
""",
    "11 LiveLine.put, LiveLine.take": """
>>> from moveafter.live import LiveLine
>>> live = LiveLine.of(0, 1, 2)
>>> live.put(9)
>>> live.take(1)
>>> live.line
(0, 2, 9)
""",
    "11 LiveLine.undo": """
>>> from moveafter.live import LiveLine
>>> live = LiveLine.of(0, 1, 2)
>>> line = live.behind(0, 2)
>>> live.undo()
>>> [line, live.line]
[(1, 2, 0), (0, 1, 2)]
""",
    "11 LiveLine.log": """
>>> from moveafter.live import LiveLine
>>> live = LiveLine.of(0, 1)
>>> live.put(5)
>>> [live.before(5, 1), live.log()]
[(0, 5, 1), [('put', 5), ('before', 5, 1)]]
""",
    "11 LiveLine.preview": """
>>> from moveafter.live import LiveLine
>>> live = LiveLine.of(0, 1)
>>> [live.preview(("put", 5), ("before", 5, 1)), live.line, live.log()]
[(0, 5, 1), (0, 1), []]
""",
    "11 len, ==": """
>>> from moveafter.live import LiveLine
>>> [LiveLine.of(2, 1) == LiveLine((2, 1)), LiveLine.of(2, 1) == (2, 1)]
[True, False]
""",
    "12 show_line, read_line": """
>>> from moveafter.texts import read_line, show_line
>>> [show_line((3, 10)), read_line('3 10 0')]
['3 10', (3, 10, 0)]
""",
    "12 show_script, read_script": """
>>> from moveafter.texts import read_script, show_script
>>> [show_script((("behind", 0, 1), ("before", 1, 2))), read_script('0>1 1<2')]
['0>1 1<2', (('behind', 0, 1), ('before', 1, 2))]
""",
    "13 Console.say": """
>>> from moveafter.console import Console
>>> console = Console()
>>> opened = [console.say('line 0 1 2'), console.say('script 0>1 1>2 2>0')]
>>> [console.say(row) for row in ['run 1', 'after 1', 'block 1', 'relation 0 2', 'settled', 'period', 'starts', 'move 2<0', 'undo']]
['0 2 1', '1 0 2', '0 2', 'ahead', '1', '2', '3', '2 0 1', 'ok']
""",
}


class Examples(unittest.TestCase):
    def run_example(self, name, text):
        found = []
        example = doctest.DocTestParser().get_doctest(text, {}, name, None, 0)
        result = doctest.DocTestRunner(verbose=False).run(example, out=found.append)
        self.assertGreater(result.attempted, 1)
        self.assertEqual(result.failed, 0, "".join(found))

    def test_examples(self):
        for name, text in EXAMPLES.items():
            with self.subTest(name):
                self.run_example(name, text)

    def test_readme(self):
        for part in README.read_text(encoding="utf-8").split("```")[1::2]:
            if ">>>" in part:
                self.run_example("README.md", part)

    def test_table(self):
        from moveafter.blocks import blocks_of
        from moveafter.lines import after_script
        script = (("behind", 0, 1), ("behind", 1, 2), ("behind", 2, 0))
        rows = [
            ((1, 0, 2), {0: (), 1: (1, 0)}),
            ((0, 2, 1), {0: (), 1: (0,), 2: (2, 1)}),
            ((0, 2, 1), {0: (), 1: (0, 2), 2: (1,)}),
        ]
        for many, (line, blocks) in enumerate(rows, 1):
            self.assertEqual(after_script((0, 1, 2), script[:many]), line)
            self.assertEqual(blocks_of(script[:many]), blocks)


if __name__ == "__main__":
    unittest.main()
