"""[3] to [6]: moved, after_script, lines_from and items_of."""

import unittest

from moveafter.errors import Missing, NoCommand, NoLine, NoScript
from moveafter.lines import after_script, items_of, lines_from, moved
from tests.samples import (BAD_LINES, BAD_SCRIPTS, COMMAND, FULL_LINE, SCRIPT, STRANGE, Dice, ErrorCase, all_commands,
                           sample_scripts, slow_after, slow_items, slow_moved)

BAD_COMMANDS = [*STRANGE, ["behind", 0, 1], ("behind", 0, 0), ("behind", 0, 60), ("behind", True, 0), ("after", 0, 1),
                ("behind", 0), ("behind", 0, 1, 2), (COMMAND,)]


def first_of(line, script):
    """Request the first item of lines_from, so that its errors are raised."""
    for present in lines_from(line, script):
        return present


def some_lines(dice, items):
    """Return lines with the items and with some, or all, of the other ones."""
    others = [item for item in range(60) if item not in items]
    return [tuple(dice.shuffled([*items, *dice.some(others, many)])) for many in [0, 0, 1, 7, len(others)]]


class Moved(unittest.TestCase):
    def test_all_commands(self):
        for line in [(0, 1), (5, 3), (0, 1, 2, 3), (59, 4, 0, 31, 8)]:
            for command in all_commands(line):
                self.assertEqual(moved(line, command), slow_moved(line, command))

    def test_next_to_each_other(self):
        self.assertEqual(moved((0, 1, 2), ("behind", 1, 0)), (0, 1, 2))
        self.assertEqual(moved((0, 1, 2), ("before", 1, 2)), (0, 1, 2))
        self.assertEqual(moved((0, 1, 2), ("before", 1, 0)), (1, 0, 2))
        self.assertEqual(moved((0, 1, 2), ("behind", 1, 2)), (0, 2, 1))

    def test_ends(self):
        self.assertEqual(moved((7, 8, 9), ("behind", 7, 9)), (8, 9, 7))
        self.assertEqual(moved((7, 8, 9), ("before", 9, 7)), (9, 7, 8))

    def test_full_line(self):
        dice = Dice(1)
        for _ in range(100):
            line = tuple(dice.shuffled(FULL_LINE))
            command, = dice.script(FULL_LINE, 1)
            self.assertEqual(moved(line, command), slow_moved(line, command))

    def test_returns_a_tuple(self):
        self.assertIs(type(moved((0, 1), COMMAND)), tuple)


class AfterScript(unittest.TestCase):
    def test_item_by_item(self):
        dice = Dice(2)
        for script in sample_scripts():
            for line in some_lines(dice, slow_items(script)):
                self.assertEqual(after_script(line, script), slow_after(line, script))

    def test_command_by_command(self):
        line = FULL_LINE
        for command in Dice(3).script(FULL_LINE, 200):
            self.assertEqual(after_script(line, (command,)), moved(line, command))
            line = moved(line, command)
        self.assertEqual(after_script(FULL_LINE, Dice(3).script(FULL_LINE, 200)), line)

    def test_order_of_commands(self):
        self.assertEqual(after_script((0, 1, 2), (("behind", 0, 2), ("before", 2, 1))), (2, 1, 0))
        self.assertEqual(after_script((0, 1, 2), (("before", 2, 1), ("behind", 0, 2))), (2, 0, 1))

    def test_same_command_again(self):
        self.assertEqual(after_script((0, 1, 2), (("behind", 0, 1),) * 200), (1, 0, 2))

    def test_returns_a_tuple(self):
        self.assertIs(type(after_script((0, 1), (COMMAND,))), tuple)


class LinesFrom(unittest.TestCase):
    def test_each_line(self):
        dice = Dice(4)
        for script in sample_scripts():
            for line in some_lines(dice, slow_items(script)):
                expected = line
                for _, found in zip(range(12), lines_from(line, script)):
                    self.assertEqual(found, expected)
                    self.assertIs(type(found), tuple)
                    expected = slow_after(expected, script)

    def test_thousands_of_lines(self):
        script = Dice(6).script(FULL_LINE, 200)
        found = [line for _, line in zip(range(5000), lines_from(FULL_LINE, script))]
        self.assertEqual(len(found), 5000)
        self.assertEqual(found[0], FULL_LINE)
        for at in [*range(30), 999, 2500, 4998]:
            self.assertEqual(found[at + 1], slow_after(found[at], script))
        for line in found:
            self.assertEqual(sorted(line), list(FULL_LINE))

    def test_does_not_end(self):
        script = (("behind", 0, 1), ("behind", 1, 2), ("behind", 2, 0))
        for turn, line in enumerate(lines_from((0, 1, 2), script)):
            if turn > 0:
                self.assertEqual(line, (0, 2, 1) if turn % 2 else (1, 0, 2))
            if turn == 20000:
                break

    def test_two_at_once(self):
        one, two = lines_from((0, 1, 2), SCRIPT), lines_from((0, 1, 2), SCRIPT)
        next(one)
        next(one)
        self.assertEqual([next(two), next(one), next(two)], [(0, 1, 2), (1, 0, 2), (0, 2, 1)])

    def test_errors_come_with_the_first_item(self):
        for line, script, error in [(0, SCRIPT, NoLine), ((0,), 0, NoScript), ((0, 1), SCRIPT, Missing)]:
            lines = lines_from(line, script)
            with self.assertRaises(error) as caught:
                next(lines)
            self.assertIs(type(caught.exception), error)


class ItemsOf(unittest.TestCase):
    def test_samples(self):
        for script in sample_scripts():
            self.assertEqual(items_of(script), slow_items(script))

    def test_ascending_without_doubles(self):
        self.assertEqual(items_of((("behind", 59, 0), ("before", 0, 59), ("behind", 31, 8))), [0, 8, 31, 59])
        self.assertEqual(items_of((("before", 10, 9),)), [9, 10])
        self.assertEqual(items_of((("before", 9, 10),)), [9, 10])

    def test_new_list(self):
        first = items_of(SCRIPT)
        self.assertIs(type(first), list)
        first.append(7)
        self.assertEqual(items_of(SCRIPT), [0, 1, 2])


class LineErrors(ErrorCase):
    def test_no_line(self):
        for line in BAD_LINES:
            self.check(NoLine, moved, line, COMMAND)
            for function in [after_script, first_of]:
                self.check(NoLine, function, line, SCRIPT)

    def test_no_command(self):
        for command in BAD_COMMANDS:
            self.check(NoCommand, moved, (0, 1, 2), command)

    def test_no_script(self):
        for script in BAD_SCRIPTS:
            for function in [after_script, first_of]:
                self.check(NoScript, function, (0, 1, 2), script)
            self.check(NoScript, items_of, script)

    def test_missing(self):
        for line in [(0,), (1,), (2, 3), (59,), (0, 2, 3)]:
            self.check(Missing, moved, line, COMMAND)
            self.check(Missing, moved, line, ("before", 1, 0))
            for function in [after_script, first_of]:
                self.check(Missing, function, line, SCRIPT)
        for missing in range(60):
            line = tuple([item for item in FULL_LINE if item != missing])
            other = (missing + 1) % 60
            self.check(Missing, moved, line, ("behind", missing, other))
            self.check(Missing, moved, line, ("before", other, missing))
            # The last command alone names the item.
            script = Dice(missing).script(line, 199) + (("behind", other, missing),)
            for function in [after_script, first_of]:
                self.check(Missing, function, line, script)

    def test_order(self):
        for line in BAD_LINES:
            for command in [*BAD_COMMANDS[::3], ("behind", 58, 59)]:
                self.check(NoLine, moved, line, command)
            for script in [*BAD_SCRIPTS[::3], (("behind", 58, 59),)]:
                for function in [after_script, first_of]:
                    self.check(NoLine, function, line, script)
        for command in BAD_COMMANDS:
            self.check(NoCommand, moved, (7,), command)
        for script in BAD_SCRIPTS:
            for function in [after_script, first_of]:
                self.check(NoScript, function, (7,), script)
        # Of a command that names one missing item and one that is no item, the form is told first.
        self.check(NoCommand, moved, (7,), ("behind", 0, 60))
        self.check(NoScript, after_script, (7,), (COMMAND, ("behind", 0, 60)))

    def test_calls_go_on_after_an_error(self):
        self.check(NoScript, after_script, (0, 1, 2), ())
        self.assertEqual(after_script((0, 1, 2), SCRIPT), (0, 2, 1))


if __name__ == "__main__":
    unittest.main()
