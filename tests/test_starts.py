"""[2], [3], [4], [10], section 8: count_ends, count_starts, nth_start and start_number."""

import math
import unittest

from moveafter.errors import Missing, NoLine, NoNumber, NoScript, NoTimes
from moveafter.lines import is_line
from moveafter.repeats import after_times, final_blocks, settled_after
from moveafter.starts import count_ends, count_starts, nth_start, start_number
from tests.samples import (BAD_LINES, BAD_SCRIPTS, BAD_TIMES, FULL_LINE, SCRIPT, STRANGE, Dice, ErrorCase,
                           chain_script, lines_of, ring_script, sample_scripts, slow_after, slow_blocks_after,
                           slow_items, small_scripts)

MOST = 10 ** 30

# 0 is not among them, since it is a number wherever there is a start at all.
BAD_NUMBERS = [*[value for value in STRANGE if value != 60], -MOST, MOST, "0", (0,), [0], "1"]


def slow_starts(script, items, times):
    """Return the dict from each end to the ascending list of its starts, by playing all lines of the items."""
    starts = {}
    for line in lines_of(items):
        starts.setdefault(slow_after(line, script * times), []).append(line)
    return starts


def some_items(script, many):
    """Return the named items and so many other ones, above and below them."""
    named = slow_items(script)
    others = [item for item in FULL_LINE if item not in named]
    return named + [others[0], others[-1]][:many]


def long_scripts():
    dice = Dice(71)
    for many in [1, 2, 5, 20, 60, 200]:
        yield dice.script(FULL_LINE, many)
    yield chain_script(FULL_LINE)
    yield ring_script(dice.shuffled(FULL_LINE), [5, 4, 3, 2])


class CountEnds(unittest.TestCase):
    def test_all_lines(self):
        for script in small_scripts():
            for times in range(4):
                expected = len(slow_starts(script, slow_items(script), times))
                self.assertEqual(count_ends(script, times=times), expected)

    def test_blocks_that_are_not_empty(self):
        for script in sample_scripts():
            for times in [0, 1, 2, 3]:
                blocks = slow_blocks_after(script, times)
                self.assertEqual(count_ends(script, times=times),
                                 math.factorial(len([block for block in blocks.values() if block])))
            self.assertEqual(count_ends(script, times=MOST), math.factorial(len(final_blocks(script))))

    def test_without_times(self):
        for script in sample_scripts():
            self.assertEqual(count_ends(script), count_ends(script, times=1))

    def test_long_chain(self):
        script = chain_script(FULL_LINE)
        for times in [0, 1, 30, 57, 58, 59, 60, MOST]:
            self.assertEqual(count_ends(script, times=times), math.factorial(max(60 - times, 1)))

    def test_kind(self):
        self.assertIs(type(count_ends(SCRIPT)), int)


class SmallStarts(unittest.TestCase):
    def test_all_lines(self):
        for at, script in enumerate(small_scripts()):
            items = some_items(script, at % 3 if len(slow_items(script)) < 4 else at % 2)
            for times in range(4):
                self.check_all(script, items, times)

    def check_all(self, script, items, times):
        starts = slow_starts(script, items, times)
        # A line that is no end has no starts.
        for line in lines_of(items)[::4]:
            self.assertEqual(count_starts(line, script, times=times), len(starts.get(line, [])))
        for end, lines in list(starts.items())[::3]:
            self.assertEqual(count_starts(end, script, times=times), len(lines))
            self.assertEqual([nth_start(end, script, number, times=times) for number in range(len(lines))], lines)
            self.assertEqual([start_number(line, script, times=times) for line in lines], list(range(len(lines))))
            for number in [-1, len(lines), len(lines) + 1]:
                with self.assertRaises(NoNumber):
                    nth_start(end, script, number, times=times)

    def test_no_end(self):
        for script in small_scripts():
            items = slow_items(script)
            for times in [1, 2]:
                starts = slow_starts(script, items, times)
                for line in lines_of(items)[::5]:
                    if line not in starts:
                        self.assertEqual(count_starts(line, script, times=times), 0)
                        for number in [-1, 0, 1]:
                            with self.assertRaises(NoNumber):
                                nth_start(line, script, number, times=times)

    def test_not_repeated(self):
        # Each line is its own only start.
        for line in lines_of([0, 1, 2, 9]):
            self.assertEqual(count_starts(line, SCRIPT, times=0), 1)
            self.assertEqual(nth_start(line, SCRIPT, 0, times=0), line)
            self.assertEqual(start_number(line, SCRIPT, times=0), 0)

    def test_without_times(self):
        for script in sample_scripts():
            end = after_times(FULL_LINE, script)
            self.assertEqual(count_starts(end, script), count_starts(end, script, times=1))
            self.assertEqual(start_number(FULL_LINE, script), start_number(FULL_LINE, script, times=1))
            self.assertEqual(nth_start(end, script, 0), nth_start(end, script, 0, times=1))

    def test_kinds(self):
        self.assertIs(type(count_starts((0, 2, 1), SCRIPT)), int)
        self.assertIs(type(count_starts((2, 0, 1), SCRIPT)), int)
        self.assertIs(type(nth_start((0, 2, 1), SCRIPT, 0)), tuple)
        self.assertIs(type(start_number((0, 2, 1), SCRIPT)), int)


class LongStarts(unittest.TestCase):
    def test_count(self):
        dice = Dice(72)
        for script in long_scripts():
            for times in [0, 1, 2, 7, MOST]:
                end = after_times(tuple(dice.shuffled(FULL_LINE)), script, times=times)
                blocks = slow_blocks_after(script, min(times, settled_after(script)))
                empty = len([block for block in blocks.values() if not block])
                self.assertEqual(count_starts(end, script, times=times),
                                 math.factorial(60) // math.factorial(60 - empty))

    def test_starts(self):
        dice = Dice(73)
        for script in long_scripts():
            for times in [0, 1, 3, MOST]:
                end = after_times(tuple(dice.shuffled(FULL_LINE)), script, times=times)
                many = count_starts(end, script, times=times)
                numbers = {0, 1, many // 2, many // 2 + 1, many - 2, many - 1} | {dice.roll(2 ** 31) for _ in range(4)}
                numbers = sorted(number for number in numbers if 0 <= number < many)
                starts = [nth_start(end, script, number, times=times) for number in numbers]
                self.assertEqual(starts, sorted(starts))
                self.assertEqual(len(set(starts)), len(numbers))
                for number, start in zip(numbers, starts):
                    self.assertIs(is_line(start), True)
                    self.assertEqual(after_times(start, script, times=times), end)
                    self.assertEqual(start_number(start, script, times=times), number)

    def test_numbers_in_and_out_of_range(self):
        dice = Dice(74)
        for script in long_scripts():
            for times in [0, 1, MOST]:
                end = after_times(tuple(dice.shuffled(FULL_LINE)), script, times=times)
                many = count_starts(end, script, times=times)
                for number in [0, many - 1]:
                    nth_start(end, script, number, times=times)
                for number in [-1, many, many + 1, -many, 2 * many, 10 ** 99]:
                    with self.assertRaises(NoNumber):
                        nth_start(end, script, number, times=times)

    def test_number_of_any_line(self):
        dice = Dice(75)
        for script in long_scripts():
            for times in [0, 1, 2, MOST]:
                line = tuple(dice.shuffled(FULL_LINE))
                number = start_number(line, script, times=times)
                end = after_times(line, script, times=times)
                self.assertEqual(nth_start(end, script, number, times=times), line)

    def test_first_and_last_start(self):
        # All items but the last one of the chain are free: any line leads to the end.
        script = chain_script(FULL_LINE)
        end = FULL_LINE[::-1]
        many = math.factorial(60)
        self.assertEqual(count_starts(end, script, times=MOST), many)
        self.assertEqual(nth_start(end, script, 0, times=MOST), FULL_LINE)
        self.assertEqual(nth_start(end, script, many - 1, times=MOST), end)
        self.assertEqual(start_number(FULL_LINE, script, times=MOST), 0)
        self.assertEqual(start_number(end, script, times=MOST), many - 1)

    def test_long_line_that_is_no_end(self):
        self.assertEqual(count_starts(FULL_LINE, chain_script(FULL_LINE), times=MOST), 0)
        line = FULL_LINE[:30] + (31, 30) + FULL_LINE[32:]
        self.assertEqual(count_starts(FULL_LINE, (("behind", 31, 30),)), 60)
        self.assertEqual(count_starts(line, (("behind", 31, 30),)), 0)


class StartErrors(ErrorCase):
    faults = [
        (NoLine, "line", BAD_LINES),
        (NoScript, "script", BAD_SCRIPTS),
        (NoTimes, "times", BAD_TIMES),
        (Missing, "line", [(0,), (0, 1), (7,), (0, 2, 3, 59)]),
        (Missing, "script", [(("behind", 58, 59),), SCRIPT + (("behind", 0, 3),)]),
    ]

    def test_count_ends(self):
        self.check_faults(count_ends, {"script": SCRIPT, "times": 1}, [
            (NoScript, "script", BAD_SCRIPTS), (NoTimes, "times", BAD_TIMES),
        ])

    def test_line_and_script(self):
        for function in [count_starts, start_number]:
            self.check_faults(function, {"line": (0, 2, 1), "script": SCRIPT, "times": 1}, self.faults)

    def test_nth_start(self):
        self.check_faults(nth_start, {"line": (0, 2, 1), "script": SCRIPT, "number": 0, "times": 1},
                          [*self.faults, (NoNumber, "number", [*BAD_NUMBERS, 3, 4, 60])])

    def test_bools_are_no_numbers(self):
        for number in [True, False]:
            self.check(NoNumber, nth_start, (0, 2, 1), SCRIPT, number)
            self.check(NoNumber, nth_start, (0, 2, 1), SCRIPT, number, times=0)

    def test_no_start_whatever_the_number(self):
        for number in [*BAD_NUMBERS, 0, 1, 60]:
            self.check(NoNumber, nth_start, (2, 0, 1), SCRIPT, number)

    def test_edges_of_times(self):
        for times in [-1, MOST + 1, 10 ** 99, True]:
            self.check(NoTimes, count_ends, SCRIPT, times=times)
            self.check(NoTimes, count_starts, (0, 2, 1), SCRIPT, times=times)
            self.check(NoTimes, start_number, (0, 2, 1), SCRIPT, times=times)
            self.check(NoTimes, nth_start, (0, 2, 1), SCRIPT, 0, times=times)

    def test_calls_go_on_after_an_error(self):
        self.check(NoNumber, nth_start, (0, 2, 1), SCRIPT, 3)
        self.assertEqual(nth_start((0, 2, 1), SCRIPT, 2), (1, 2, 0))


if __name__ == "__main__":
    unittest.main()
