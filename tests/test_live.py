"""[3], [4], [6], section 11: LiveLine."""

import itertools
import unittest

from moveafter.errors import Missing, MoveError, NoItem, NoLine, NoOperation, NoScript, Nothing, NoTimes, Same
from moveafter.lines import MOST_ITEMS, after_script
from moveafter.live import LiveLine
from moveafter.repeats import after_times
from tests.samples import (BAD_ITEMS, BAD_LINES, BAD_SCRIPTS, BAD_TIMES, FULL_LINE, SCRIPT, STRANGE, Dice, ErrorCase,
                           chain_script, lines_of, sample_scripts, slow_moved)

MOST = 10 ** 30

START = (3, 0, 1, 2)

# Numbers of repetitions that can not be run; other than `after_times`, `run` takes no 0.
BAD_RUNS = [0, *BAD_TIMES]

# Items, but none of the line START.
ABSENT = [4, 5, 30, 59]

# Not of the form of an operation, whatever their other parts are.
BAD_OPERATIONS = [
    *STRANGE, ("behind",), ("behind", 0), ("behind", 0, 1, 2), ("before",), ("before", 0), ("before", 0, 1, 2),
    ("run",), ("run", SCRIPT), ("run", SCRIPT, 1, 1), ("put",), ("put", 5, 6), ("take",), ("take", 0, 1),
    ("undo",), ("undo", 1), ("undo", 1, 2), ("log",), ("of", 1), ("line",), ("put ", 5), ("Put", 5), ("pu", 5),
    ["put", 5], ["behind", 0, 1], [("put", 5)], (("put", 5),), ("put", 5, None), "put", "put 5", (5, "put"),
    (0, "behind", 1), (b"put", 5), (None, 5), (["put"], 5), ({}, 5), (0, 1), (True, 5), ({"put"}, 5),
    SCRIPT, {"put": 5}, {0: "put", 1: 5}, (("behind", 0, 1), 1), ("", 5), ("__len__",), ("preview", 5),
]


def slow_step(line, operation):
    """Return the line after an operation that raises no error."""
    word, *values = operation
    if word == "put":
        return line + (values[0],)
    if word == "take":
        return tuple(item for item in line if item != values[0])
    if word == "run":
        return after_times(line, values[0], times=values[1])
    return slow_moved(line, operation)


def perform(live, operation):
    word, *values = operation
    if word == "run":
        return live.run(values[0], times=values[1])
    return getattr(live, word)(*values)


def random_operation(dice, line):
    """Return an operation that raises no error on the line."""
    words = []
    if len(line) > 1:
        words += ["behind", "before", "run", "take"]
    if len(line) < 60:
        words += ["put"]
    word = words[dice.roll(len(words))]
    if word == "put":
        return word, dice.some([item for item in FULL_LINE if item not in line], 1)[0]
    if word == "take":
        return word, dice.some(line, 1)[0]
    if word == "run":
        times = [1, 2, 1 + dice.roll(100), MOST - dice.roll(3)][dice.roll(4)]
        return word, dice.script(line, 1 + dice.roll(5)), times
    return word, *dice.some(line, 2)


def used_line():
    """Return a live line START with operations that can be undone."""
    live = LiveLine((0, 1, 2))
    live.put(3)
    live.before(3, 0)
    return live


def seen_of(live):
    return live.line, live.log(), live.first, live.last, len(live)


class Creating(ErrorCase):
    def test_lines(self):
        dice = Dice(91)
        for many in range(1, 61):
            line = tuple(dice.some(FULL_LINE, many))
            for live in [LiveLine(line), LiveLine.of(*line)]:
                self.assertIs(type(live), LiveLine)
                self.assertEqual([live.line, live.first, live.last], [line, line[0], line[-1]])
                self.assertIs(type(live.line), tuple)
                self.assertEqual([len(live), live.log()], [many, []])

    def test_class_value(self):
        self.assertEqual(LiveLine.ITEMS, 60)
        self.assertIs(type(LiveLine.ITEMS), int)
        self.assertEqual(LiveLine.ITEMS, MOST_ITEMS)
        self.assertEqual(vars(LiveLine)["ITEMS"], used_line().ITEMS)

    def test_defined_in_the_class(self):
        for name in ["behind", "before", "run", "put", "take", "undo", "log", "preview", "__len__", "__eq__", "of"]:
            self.assertIn(name, vars(LiveLine))
        self.assertIsInstance(vars(LiveLine)["of"], classmethod)
        for name in ["line", "first", "last"]:
            self.assertIsInstance(vars(LiveLine)[name], property)

    def test_errors(self):
        self.check_faults(LiveLine, {"line": START}, [(NoLine, "line", BAD_LINES)])
        for line in BAD_LINES:
            self.check(NoLine, LiveLine.of, line)
            if isinstance(line, tuple):
                self.check(NoLine, LiveLine.of, *line)
        self.check(NoLine, LiveLine.of)
        self.check(NoLine, LiveLine.of, 0, 0)
        self.check(NoLine, LiveLine.of, (0, 1))
        self.check(NoLine, LiveLine.of, *range(61))

    def test_two_lines_do_not_touch(self):
        one, two = LiveLine(START), LiveLine(START)
        one.behind(3, 2)
        self.assertEqual([two.line, two.log()], [START, []])


class Moving(ErrorCase):
    def test_all_pairs(self):
        for line in [*lines_of(range(3)), START, (59, 0), (7, 5, 30, 2, 1, 44)]:
            for word in ["behind", "before"]:
                for item, other in itertools.permutations(line, 2):
                    live = LiveLine(line)
                    found = perform(live, (word, item, other))
                    self.assertEqual(found, slow_moved(line, (word, item, other)))
                    self.assertEqual([type(found), live.line], [tuple, found])
                    self.assertEqual([live.first, live.last, len(live)], [found[0], found[-1], len(line)])
                    self.assertEqual(live.log(), [(word, item, other)])

    def test_sixty_items(self):
        live = LiveLine(FULL_LINE)
        self.assertEqual(live.behind(0, 59), FULL_LINE[1:] + (0,))
        self.assertEqual(live.before(0, 1), FULL_LINE)

    def test_move_that_changes_nothing(self):
        live = LiveLine(START)
        self.assertEqual(live.behind(0, 3), START)
        self.assertEqual(live.log(), [("behind", 0, 3)])
        live.undo()
        self.check(Nothing, live.undo)

    def test_errors(self):
        wrong = [*BAD_ITEMS, *ABSENT]
        for word in ["behind", "before"]:
            def call(item, other):
                live = used_line()
                before = seen_of(live)
                try:
                    return perform(live, (word, item, other))
                except MoveError:
                    self.assertEqual(seen_of(live), before)
                    raise
            self.check_faults(call, {"item": 0, "other": 1}, [(NoItem, "item", wrong), (NoItem, "other", wrong)])
            for item in START:
                self.check(Same, call, item, item)
            # Two wrong ones that are equal are no items of the line.
            for item in wrong:
                self.check(NoItem, call, item, item)
            for item, other in [(0, False), (False, 0), (1, True), (True, 2), (True, True)]:
                self.check(NoItem, call, item, other)

    def test_only_item(self):
        live = LiveLine.of(7)
        self.check(Same, live.behind, 7, 7)
        self.check(NoItem, live.before, 7, 8)


class Running(ErrorCase):
    def test_scripts(self):
        dice = Dice(92)
        for script in sample_scripts():
            line = tuple(dice.shuffled(FULL_LINE))
            for times in [1, 2, 3, 60, MOST - 1, MOST]:
                live = LiveLine(line)
                found = live.run(script, times=times)
                self.assertEqual(found, after_times(line, script, times=times))
                self.assertEqual([type(found), live.line], [tuple, found])
                self.assertEqual(live.log(), [("run", script, times)])
                live.undo()
                self.assertEqual([live.line, live.log()], [line, []])

    def test_without_times(self):
        live = LiveLine(START)
        self.assertEqual(live.run(SCRIPT), after_script(START, SCRIPT))
        self.assertEqual(live.log(), [("run", SCRIPT, 1)])

    def test_edges(self):
        self.assertEqual(LiveLine((0, 1, 2)).run(SCRIPT, times=1), (0, 2, 1))
        self.assertEqual(LiveLine((0, 1, 2)).run(SCRIPT, times=MOST), (1, 0, 2))
        self.assertEqual(LiveLine(FULL_LINE).run((("behind", 0, 1),) * 200, times=MOST), (1, 0) + FULL_LINE[2:])
        self.assertEqual(LiveLine(FULL_LINE).run(chain_script(FULL_LINE), times=59), FULL_LINE[::-1])

    def test_errors(self):
        def call(script, times):
            live = used_line()
            before = seen_of(live)
            try:
                return live.run(script, times=times)
            except MoveError:
                self.assertEqual(seen_of(live), before)
                raise
        absent = [(("behind", 58, 59),), SCRIPT + (("behind", 0, 5),), (("before", 4, 0),)]
        self.check_faults(lambda script, *, times: call(script, times), {"script": SCRIPT, "times": 1}, [
            (NoScript, "script", BAD_SCRIPTS), (NoTimes, "times", BAD_RUNS), (Missing, "script", absent),
        ])
        for times in [0, -1, MOST + 1, True, None]:
            self.check(NoTimes, call, absent[0], times)
        self.check(NoScript, call, (), 1)

    def test_times_by_keyword(self):
        with self.assertRaises(TypeError):
            LiveLine(START).run(SCRIPT, 1)


class PuttingAndTaking(ErrorCase):
    def test_put(self):
        live = LiveLine.of(30)
        expected = (30,)
        for item in [*range(29, -1, -1), *range(31, 60)]:
            self.assertIsNone(live.put(item))
            expected += (item,)
            self.assertEqual([live.line, live.last, len(live)], [expected, item, len(expected)])
            self.assertEqual(live.log()[-1], ("put", item))
        # All items are in the line.
        for item in FULL_LINE:
            self.check(NoItem, live.put, item)

    def test_take(self):
        dice = Dice(93)
        live = LiveLine(FULL_LINE)
        expected = FULL_LINE
        for item in dice.shuffled(FULL_LINE)[:59]:
            self.assertIsNone(live.take(item))
            expected = tuple(other for other in expected if other != item)
            self.assertEqual([live.line, live.first, live.last], [expected, expected[0], expected[-1]])
            self.assertEqual([len(live), live.log()[-1]], [len(expected), ("take", item)])
        for item in FULL_LINE:
            self.check(NoItem, live.take, item)
        self.assertEqual(live.line, expected)

    def test_put_again(self):
        live = LiveLine(START)
        live.take(3)
        live.put(3)
        self.assertEqual([live.line, live.log()], [(0, 1, 2, 3), [("take", 3), ("put", 3)]])

    def test_errors(self):
        for word, wrong in [("put", [*BAD_ITEMS, *START]), ("take", [*BAD_ITEMS, *ABSENT])]:
            for item in wrong:
                live = used_line()
                before = seen_of(live)
                self.check(NoItem, getattr(live, word), item)
                self.assertEqual(seen_of(live), before)
        for item in [True, False]:
            self.check(NoItem, LiveLine.of(5, 6).put, item)
            self.check(NoItem, LiveLine.of(0, 1).take, item)
        for item in [7, 8, 60, None]:
            self.check(NoItem, LiveLine.of(7).take, item)


class UndoAndLog(ErrorCase):
    def test_each_operation(self):
        for operation in [("behind", 3, 2), ("before", 2, 3), ("run", SCRIPT, MOST), ("put", 9), ("take", 1)]:
            live = LiveLine(START)
            perform(live, operation)
            self.assertNotEqual(live.line, START)
            self.assertEqual(live.log(), [operation])
            self.assertIsNone(live.undo())
            self.assertEqual([live.line, live.log()], [START, []])
            self.check(Nothing, live.undo)

    def test_back_to_the_beginning(self):
        live = used_line()
        live.undo()
        self.assertEqual([live.line, live.log()], [(0, 1, 2, 3), [("put", 3)]])
        live.undo()
        self.assertEqual([live.line, live.log()], [(0, 1, 2), []])
        for _ in range(3):
            self.check(Nothing, live.undo)
            self.assertEqual([live.line, live.log()], [(0, 1, 2), []])
        live.behind(0, 1)
        live.undo()
        self.assertEqual(live.line, (0, 1, 2))

    def test_errors_are_not_undone(self):
        live = used_line()
        for function, given in [(live.put, [3]), (live.take, [9]), (live.behind, [0, 0]), (live.run, [()])]:
            self.assertRaises(MoveError, function, *given)
        self.assertEqual(live.log(), [("put", 3), ("before", 3, 0)])
        live.undo()
        self.assertEqual(live.line, (0, 1, 2, 3))

    def test_nothing_on_a_new_line(self):
        self.check(Nothing, LiveLine(START).undo)
        self.check(Nothing, LiveLine.of(5).undo)

    def test_new_list(self):
        live = used_line()
        first = live.log()
        self.assertEqual([type(first), *map(type, first)], [list, tuple, tuple])
        first.append(("put", 9))
        del first[0]
        self.assertEqual(live.log(), [("put", 3), ("before", 3, 0)])
        live.undo()
        self.assertEqual(live.log(), [("put", 3)])

    def test_older_log_stays(self):
        live = used_line()
        first = live.log()
        live.put(9)
        self.assertEqual(first, [("put", 3), ("before", 3, 0)])

    def test_two_hundred_calls(self):
        for seed in range(12):
            dice = Dice(seed)
            start = tuple(dice.some(FULL_LINE, [1, 2, 5, 20, 59, 60][seed % 6]))
            live = LiveLine(start)
            lines, log = [start], []
            for _ in range(200):
                if log and dice.roll(4) == 0:
                    live.undo()
                    lines.pop()
                    log.pop()
                else:
                    operation = random_operation(dice, lines[-1])
                    lines.append(slow_step(lines[-1], operation))
                    log.append(operation)
                    found = perform(live, operation)
                    self.assertEqual(found, None if operation[0] in ("put", "take") else lines[-1])
                self.assertEqual(seen_of(live), (lines[-1], log, lines[-1][0], lines[-1][-1], len(lines[-1])))

    def test_two_hundred_operations_and_no_undo(self):
        live = LiveLine(FULL_LINE)
        for turn in range(200):
            live.behind(turn % 60, (turn + 7) % 60)
        self.assertEqual(live.log(), [("behind", turn % 60, (turn + 7) % 60) for turn in range(200)])
        self.assertEqual(live.line, after_script(FULL_LINE, tuple(live.log())))
        for _ in range(200):
            live.undo()
        self.assertEqual([live.line, live.log()], [FULL_LINE, []])


class Previews(ErrorCase):
    def check_preview(self, live, operations, expected):
        before = seen_of(live)
        found = live.preview(*operations)
        self.assertEqual([found, type(found)], [expected, tuple])
        self.assertEqual(seen_of(live), before)

    def test_no_operations(self):
        self.check_preview(LiveLine(START), [], START)
        self.check_preview(used_line(), [], START)

    def test_up_to_twelve(self):
        for seed in range(60):
            dice = Dice(seed)
            line = tuple(dice.some(FULL_LINE, 1 + dice.roll(60)))
            live = LiveLine(line)
            operations = []
            for _ in range(1 + seed % 12):
                operations.append(random_operation(dice, line))
                line = slow_step(line, operations[-1])
            self.check_preview(live, operations, line)
            # The log can be passed back.
            for operation in operations:
                perform(live, operation)
            self.assertEqual([live.line, live.log()], [line, operations])
            for _ in operations:
                live.undo()
            self.check_preview(live, operations, line)

    def test_each_operation(self):
        for operation in [("behind", 3, 2), ("before", 2, 3), ("run", SCRIPT, 1), ("run", SCRIPT, MOST), ("put", 9),
                          ("take", 1)]:
            for live in [LiveLine(START), used_line()]:
                self.check_preview(live, [operation], slow_step(START, operation))

    def test_undo_after_a_preview(self):
        live = used_line()
        live.preview(("put", 9), ("take", 0))
        live.undo()
        self.assertEqual([live.line, live.log()], [(0, 1, 2, 3), [("put", 3)]])

    def check_error(self, error, *operations):
        for live in [LiveLine(START), used_line()]:
            before = seen_of(live)
            self.check(error, live.preview, *operations)
            self.assertEqual(seen_of(live), before)

    def test_no_operation(self):
        for wrong in BAD_OPERATIONS:
            self.check_error(NoOperation, wrong)
            self.check_error(NoOperation, ("put", 9), wrong)
            self.check_error(NoOperation, wrong, ("put", 9))
            # A wrong form is raised before the errors of the operations, also of those in front of it.
            for failing in [("put", 3), ("behind", 0, 0), ("run", (), 1), ("take", 60), ("run", SCRIPT, 0)]:
                self.check_error(NoOperation, failing, wrong)
                self.check_error(NoOperation, wrong, failing)
            self.check_error(NoOperation, *[("behind", 0, 1)] * 11, wrong)

    def test_whatever_the_items_are(self):
        for value in [*BAD_ITEMS, *ABSENT]:
            self.check_error(NoItem, ("behind", value, 0))
            self.check_error(NoItem, ("before", 0, value))
            self.check_error(NoItem, ("take", value))
        for value in [*BAD_ITEMS, *START]:
            self.check_error(NoItem, ("put", value))
        for value in BAD_SCRIPTS:
            self.check_error(NoScript, ("run", value, 1))
            self.check_error(NoScript, ("run", value, value))
        for value in BAD_RUNS:
            self.check_error(NoTimes, ("run", SCRIPT, value))

    def test_errors_in_order(self):
        failing = [
            (NoItem, ("behind", 9, 0)), (NoItem, ("before", 0, None)), (Same, ("behind", 0, 0)),
            (Same, ("before", 1, 1)), (NoScript, ("run", None, None)), (NoTimes, ("run", SCRIPT, 0)),
            (Missing, ("run", (("behind", 0, 9),), 1)), (NoItem, ("put", 3)), (NoItem, ("take", 9)),
        ]
        for error, operation in failing:
            self.check_error(error, operation)
            self.check_error(error, ("behind", 0, 1), operation)
            for _, other in failing:
                self.check_error(error, operation, other)

    def test_errors_by_what_went_before(self):
        self.check_error(NoItem, ("take", 3), ("behind", 3, 0))
        self.check_error(NoItem, ("put", 9), ("put", 9))
        self.check_error(NoItem, ("take", 3), ("take", 0), ("take", 1), ("take", 2))
        self.check_error(Missing, ("take", 1), ("run", SCRIPT, 1))
        self.check_preview(used_line(), [("put", 9), ("behind", 9, 3), ("take", 3)], (9, 0, 1, 2))

    def test_previews_are_no_calls_that_change(self):
        live = used_line()
        for _ in range(250):
            live.preview(("put", 9), *[("behind", 9, 3), ("before", 9, 3)] * 5, ("take", 9))
        self.assertEqual(seen_of(live), seen_of(used_line()))


class Comparing(unittest.TestCase):
    def test_equal_by_their_lines(self):
        for one, two in itertools.product(lines_of(range(3)) + [(0,), (1,), (0, 1), (1, 0)], repeat=2):
            self.assertIs(LiveLine(one) == LiveLine.of(*two), one == two)
            self.assertIs(LiveLine(one) != LiveLine.of(*two), one != two)

    def test_logs_do_not_count(self):
        live = used_line()
        self.assertIs(live == LiveLine(START), True)
        self.assertIs(LiveLine(START) == live, True)
        live.put(9)
        self.assertIs(live == LiveLine(START), False)
        live.undo()
        self.assertIs(live == LiveLine(START), True)
        self.assertIs(live == live, True)

    def test_other_values(self):
        for live in [LiveLine(START), LiveLine.of(0), LiveLine.of(1)]:
            for value in [*STRANGE, live.line, list(live.line), str(live.line), len(live), live.log(), LiveLine]:
                self.assertIs(live == value, False)
                self.assertIs(live != value, True)
                self.assertIs(value == live, False)

    def test_length(self):
        for many in range(1, 61):
            self.assertEqual(len(LiveLine(FULL_LINE[:many])), many)


if __name__ == "__main__":
    unittest.main()
