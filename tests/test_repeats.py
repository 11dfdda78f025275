"""[2], [3], [4], section 6: after_times, blocks_after, settled_after, final_blocks, rings_of and period."""

import math
import unittest

from moveafter.blocks import blocks_of, is_effect, joined, source_of
from moveafter.errors import Missing, NoLine, NoScript, NoTimes
from moveafter.lines import after_script, items_of
from moveafter.repeats import after_times, blocks_after, final_blocks, period, rings_of, settled_after
from tests.samples import (BAD_LINES, BAD_SCRIPTS, BAD_TIMES, FULL_LINE, SCRIPT, Dice, ErrorCase, chain_script,
                           lines_of, ring_script, sample_scripts, slow_after, slow_blocks_after, slow_items,
                           slow_sources, small_scripts)

MOST = 10 ** 30

LENGTHS = [[2], [3], [2, 2], [2, 3], [2, 2, 2], [4, 6], [2, 3, 5], [7, 4, 3, 2], [9, 6, 4], [12, 8, 5, 3, 2],
           [2] * 29, [29, 29], [58], [2, 3, 5, 7, 11, 13, 17]]


def chains():
    """Yield scripts that take many repetitions to settle, and some that take few."""
    dice = Dice(41)
    for size in [2, 3, 4, 7, 20, 60]:
        yield chain_script(FULL_LINE[:size])
        yield chain_script(FULL_LINE[:size][::-1])
        yield chain_script(FULL_LINE[:size])[::-1]
        yield chain_script(dice.some(FULL_LINE, size))
        yield tuple(("before", item, other) for _, item, other in chain_script(dice.some(FULL_LINE, size)))


def ring_scripts():
    dice = Dice(43)
    for lengths in LENGTHS:
        for _ in range(2):
            yield lengths, ring_script(dice.shuffled(FULL_LINE), lengths)


def slow_settled(script):
    """Play the repetitions one by one until the blocks that are not empty stay; return their numbers and blocks."""
    one = slow_blocks_after(script, 1)
    blocks = slow_blocks_after(script, 0)
    rows = []
    # More repetitions than items: each one before the last change leaves one block less.
    for _ in range(len(one) + 2):
        rows.append(sorted(block for block in blocks.values() if block))
        blocks = {item: sum([one[part] for part in block], ()) for item, block in blocks.items()}
    least = min(times for times in range(len(rows)) if all(row == rows[times] for row in rows[times:]))
    return least, rows[least]


def turned_blocks(script, times):
    """Return the blocks after so many repetitions, once settled: each ring's blocks go round along its sources."""
    settled = settled_after(script)
    first = blocks_after(script, times=settled)
    blocks = {item: () for item in first}
    for ring in rings_of(script):
        for at, item in enumerate(ring):
            # The item's block goes to its source with each repetition.
            blocks[ring[(at + times - settled) % len(ring)]] = first[item]
    return blocks


class AfterTimes(unittest.TestCase):
    def test_one_by_one(self):
        dice = Dice(51)
        for script in sample_scripts():
            named = slow_items(script)
            others = [item for item in FULL_LINE if item not in named]
            for many in [0, 1, len(others)]:
                line = expected = tuple(dice.shuffled([*named, *dice.some(others, many)]))
                for times in range(7):
                    found = after_times(line, script, times=times)
                    self.assertEqual(found, expected)
                    self.assertIs(type(found), tuple)
                    expected = slow_after(expected, script)

    def test_small_scripts(self):
        for script in small_scripts():
            for line in lines_of(slow_items(script))[::3]:
                expected = line
                for times in range(6):
                    self.assertEqual(after_times(line, script, times=times), expected)
                    expected = after_script(expected, script)

    def test_without_times(self):
        dice = Dice(52)
        for script in sample_scripts():
            line = tuple(dice.shuffled(FULL_LINE))
            self.assertEqual(after_times(line, script), after_script(line, script))

    def test_many_repetitions(self):
        dice = Dice(53)
        for script in sample_scripts():
            line = tuple(dice.shuffled(FULL_LINE))
            for times in [MOST, MOST - 1, 10 ** 15 + dice.roll(1000)]:
                blocks = turned_blocks(script, times)
                expected = sum([blocks.get(item, (item,)) for item in line], ())
                self.assertEqual(after_times(line, script, times=times), expected)

    def test_two_parts(self):
        dice = Dice(54)
        for script in sample_scripts():
            line = tuple(dice.shuffled(FULL_LINE))
            first, second = dice.roll(10 ** 9), dice.roll(10 ** 9)
            between = after_times(line, script, times=first)
            self.assertEqual(after_times(between, script, times=second),
                             after_times(line, script, times=first + second))

    def test_again_after_a_period(self):
        dice = Dice(55)
        for _, script in ring_scripts():
            line = tuple(dice.shuffled(FULL_LINE))
            for times in [settled_after(script), 777, MOST // 3]:
                self.assertEqual(after_times(line, script, times=times),
                                 after_times(line, script, times=times + period(script)))


class BlocksAfter(unittest.TestCase):
    def test_one_by_one(self):
        for scripts in [sample_scripts(), chains(), small_scripts()]:
            for script in scripts:
                for times in [0, 1, 2, 3, 5]:
                    found = blocks_after(script, times=times)
                    self.assertEqual(found, slow_blocks_after(script, times))
                    self.assertEqual(list(found), slow_items(script))
                    self.assertIs(is_effect(found), True)

    def test_joined(self):
        for script in sample_scripts():
            expected = blocks_after(script, times=0)
            for times in range(70):
                self.assertEqual(blocks_after(script, times=times), expected)
                expected = joined(expected, blocks_of(script))

    def test_two_hundred_commands(self):
        script = Dice(56).script(FULL_LINE, 200)
        for times in [0, 1, 2, 3, 10, 33]:
            self.assertEqual(blocks_after(script, times=times), slow_blocks_after(script, times))
        self.assertEqual(blocks_after(script, times=MOST), turned_blocks(script, MOST))

    def test_without_times(self):
        for script in sample_scripts():
            self.assertEqual(blocks_after(script), blocks_of(script))
            self.assertEqual(blocks_after(script), blocks_after(script, times=1))

    def test_many_repetitions(self):
        for scripts in [sample_scripts(), chains(), small_scripts(), [script for _, script in ring_scripts()]]:
            for script in scripts:
                for times in [MOST, MOST - 1, settled_after(script), settled_after(script) + 1]:
                    self.assertEqual(blocks_after(script, times=times), turned_blocks(script, times))

    def test_new_dict(self):
        for times in [0, 1, 2, MOST]:
            first = blocks_after(SCRIPT, times=times)
            self.assertIs(type(first), dict)
            self.assertEqual({type(block) for block in first.values()}, {tuple})
            kept = dict(first)
            first[0] = (5,)
            del first[1]
            self.assertEqual(blocks_after(SCRIPT, times=times), kept)


class Settling(unittest.TestCase):
    def test_one_by_one(self):
        for scripts in [sample_scripts(), chains(), small_scripts(), [script for _, script in ring_scripts()]]:
            for script in scripts:
                least, blocks = slow_settled(script)
                self.assertEqual(settled_after(script), least)
                self.assertEqual(final_blocks(script), blocks)

    def test_same_tuples_from_there_on(self):
        for scripts in [sample_scripts(), chains()]:
            for script in scripts:
                least, final = settled_after(script), final_blocks(script)
                for times in [least, least + 1, least + 2, least + 30, MOST]:
                    blocks = blocks_after(script, times=times)
                    self.assertEqual(sorted(block for block in blocks.values() if block), final)
                before = blocks_after(script, times=least - 1)
                self.assertNotEqual(sorted(block for block in before.values() if block), final)

    def test_long_chain(self):
        for size in range(2, 61):
            script = chain_script(FULL_LINE[:size])
            self.assertEqual(settled_after(script), size - 1)
            self.assertEqual(final_blocks(script), [FULL_LINE[:size][::-1]])
            self.assertEqual([rings_of(script), period(script)], [[[size - 1]], 1])
        # In this order one repetition takes all items to the last one.
        self.assertEqual(settled_after(chain_script(FULL_LINE)[::-1]), 1)

    def test_only_named_items(self):
        for script in sample_scripts():
            found = [item for block in final_blocks(script) for item in block]
            self.assertEqual(sorted(found), items_of(script))
        self.assertEqual(final_blocks((("before", 40, 20),)), [(40, 20)])

    def test_ascending(self):
        self.assertEqual(final_blocks((("behind", 1, 30), ("behind", 0, 2))), [(2, 0), (30, 1)])
        self.assertEqual(final_blocks((("before", 9, 3), ("behind", 10, 3), ("before", 4, 20))), [(4, 20), (9, 3, 10)])
        for script in sample_scripts():
            self.assertEqual(final_blocks(script), sorted(final_blocks(script)))

    def test_named_item_that_is_its_own_block(self):
        script = (("behind", 0, 1), ("behind", 0, 2))
        self.assertEqual(final_blocks(script), [(1,), (2, 0)])
        self.assertEqual(rings_of(script), [[1], [2]])

    def test_kinds(self):
        self.assertIs(type(settled_after(SCRIPT)), int)
        self.assertIs(type(final_blocks(SCRIPT)), list)
        self.assertEqual([type(block) for block in final_blocks(SCRIPT)], [tuple, tuple])

    def test_new_list(self):
        first = final_blocks(SCRIPT)
        first.append((9,))
        first[0] = ()
        self.assertEqual(final_blocks(SCRIPT), [(0, 2), (1,)])


class Rings(unittest.TestCase):
    def test_rings_of_sources(self):
        for scripts in [sample_scripts(), chains(), small_scripts(), [script for _, script in ring_scripts()]]:
            for script in scripts:
                sources = slow_sources(slow_blocks_after(script, 1))
                expected = []
                for item in sorted(sources):
                    way = [item]
                    while sources[way[-1]] not in way:
                        way.append(sources[way[-1]])
                    if sources[way[-1]] == item == min(way):
                        expected.append(way)
                self.assertEqual(rings_of(script), expected)

    def test_form(self):
        for script in sample_scripts():
            rings = rings_of(script)
            self.assertEqual(rings, sorted(rings))
            self.assertEqual(sum(map(len, rings)), len(final_blocks(script)))
            for ring in rings:
                self.assertEqual(ring[0], min(ring))
                self.assertEqual(len(set(ring)), len(ring))
                for item, source in zip(ring, [*ring[1:], ring[0]]):
                    self.assertEqual(source_of(script, item), source)
                    self.assertIn(item, items_of(script))

    def test_many_rings(self):
        for lengths, script in ring_scripts():
            self.assertLessEqual(len(script), 200)
            self.assertEqual(sorted(len(ring) for ring in rings_of(script)), sorted([*lengths, 1]))
            self.assertEqual(period(script), math.lcm(*lengths))
        self.assertEqual(period(ring_script(FULL_LINE, [2, 3, 5, 7, 11, 13, 17])), 510510)

    def test_direction(self):
        # 1 is moved to 2's place, 2 to 3's and 3 to 1's, so each one's source is the next one.
        script = ring_script([0, 1, 2, 3, 4], [3])
        self.assertEqual([source_of(script, item) for item in [1, 2, 3]], [2, 3, 1])
        self.assertEqual(rings_of(script), [[1, 2, 3], [4]])
        script = ring_script([0, 3, 2, 1, 4], [3])
        self.assertEqual(rings_of(script), [[1, 3, 2], [4]])

    def test_period_is_the_least_one(self):
        dice = Dice(57)
        rings = [ring_script(dice.shuffled(FULL_LINE), lengths) for lengths in [[2], [3], [2, 2], [2, 3], [4, 6]]]
        for scripts in [small_scripts(), sample_scripts(), rings]:
            for script in scripts:
                lines = [dice.shuffled(items_of(script)) for _ in range(3)]
                starts = [slow_after(tuple(line), script * settled_after(script)) for line in lines]
                present = starts
                many = 0
                while many == 0 or present != starts:
                    present = [after_script(line, script) for line in present]
                    many += 1
                self.assertEqual(period(script), many)

    def test_lines_of_settled_blocks(self):
        # With R blocks R! lines are possible, and each one comes again after the period.
        for script in small_scripts():
            lines = {after_times(line, script, times=settled_after(script)) for line in lines_of(items_of(script))}
            self.assertEqual(len(lines), math.factorial(len(final_blocks(script))))
            for line in lines:
                self.assertEqual(after_times(line, script, times=period(script)), line)
            for times in range(1, period(script)):
                self.assertTrue(any(after_times(line, script, times=times) != line for line in lines))

    def test_new_lists(self):
        first = rings_of(SCRIPT)
        self.assertEqual([type(first), type(first[0])], [list, list])
        first[0].append(9)
        first.append([7])
        self.assertEqual(rings_of(SCRIPT), [[1, 2]])
        self.assertIs(type(period(SCRIPT)), int)


class RepeatErrors(ErrorCase):
    def test_after_times(self):
        self.check_faults(after_times, {"line": (0, 1, 2), "script": SCRIPT, "times": 1}, [
            (NoLine, "line", BAD_LINES),
            (NoScript, "script", BAD_SCRIPTS),
            (NoTimes, "times", BAD_TIMES),
            (Missing, "line", [(0,), (0, 1), (7,), (0, 2, 3, 59)]),
            (Missing, "script", [(("behind", 58, 59),), SCRIPT + (("behind", 0, 3),)]),
        ])

    def test_missing_whatever_the_times(self):
        for times in [0, 1, MOST]:
            self.check(Missing, after_times, (0, 1), SCRIPT, times=times)

    def test_blocks_after(self):
        self.check_faults(blocks_after, {"script": SCRIPT, "times": 1}, [
            (NoScript, "script", BAD_SCRIPTS), (NoTimes, "times", BAD_TIMES),
        ])

    def test_script_alone(self):
        for function in [settled_after, final_blocks, rings_of, period]:
            self.check_faults(function, {"script": SCRIPT}, [(NoScript, "script", BAD_SCRIPTS)])

    def test_edges_of_times(self):
        self.assertEqual(after_times((0, 1, 2), SCRIPT, times=0), (0, 1, 2))
        self.assertEqual(after_times((0, 1, 2), SCRIPT, times=MOST), (1, 0, 2))
        for times in [-1, MOST + 1, -MOST, 10 ** 99, True, False, None]:
            self.check(NoTimes, after_times, (0, 1, 2), SCRIPT, times=times)
            self.check(NoTimes, blocks_after, SCRIPT, times=times)

    def test_times_by_keyword(self):
        with self.assertRaises(TypeError):
            after_times((0, 1, 2), SCRIPT, 1)
        with self.assertRaises(TypeError):
            blocks_after(SCRIPT, 1)

    def test_calls_go_on_after_an_error(self):
        self.check(NoTimes, after_times, (0, 1, 2), SCRIPT, times=-1)
        self.assertEqual(after_times((0, 1, 2), SCRIPT, times=2), (1, 0, 2))


if __name__ == "__main__":
    unittest.main()
