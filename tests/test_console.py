"""[4], [6], [7], [10], section 13: Console().say."""

import math
import unittest

from moveafter.blocks import block_of
from moveafter.console import Console
from moveafter.errors import Missing, MoveError, NoItem, NoRow, Nothing, NoText, NoTimes
from moveafter.live import LiveLine
from moveafter.relations import relation
from moveafter.repeats import after_times, period, settled_after
from moveafter.starts import count_starts
from moveafter.texts import show_line, show_script
from tests.samples import FULL_LINE, SCRIPT, STRANGE, Dice, ErrorCase, chain_script, ring_script
from tests.test_live import random_operation
from tests.test_texts import BAD_LINE_TEXTS, BAD_SCRIPT_TEXTS, LINE_TEXTS, SCRIPT_TEXTS

MOST = 10 ** 30

LINE = "line 3 0 1 2"

KEPT = "script 0>1 1>2 2>0"

# One row of each form, with whether it needs a live line and a kept script.
ROWS = {
    "line 0 1": (False, False), "script 0>1": (False, False), "move 0>1": (True, False), "run 1": (True, True),
    "put 4": (True, False), "take 0": (True, False), "undo": (True, False), "show": (True, False),
    "after 1": (True, True), "block 1": (False, True), "relation 0 1": (False, True), "settled": (False, True),
    "period": (False, True), "starts": (True, True),
}

# No numbers of 1 to 31 digits without leading zeros.
BAD_NUMBERS = ["", "00", "01", "007", "-1", "-0", "+1", "1.0", "1.", "1e3", "0x1", "1_0", "a", "0a", "\u0661", "\u00b2",
               "\uff11", "1\u00a0", "\t1", "1\t", "1\r", "0" * 31, "0" + "1" * 30, "1" * 32, "1" * 33, "9" * 300,
               "9" * 3900, "9" * 9000, "1>2", "1,2", "(1)", "'1'", "one"]

BAD_ROWS = [
    *STRANGE, " ", "\n", "line", "script", "move", "run", "put", "take", "after", "block", "relation", "relation 0",
    "relation 0 1 2", "run 1 1", "put 4 5", "take 0 1", "after 1 1", "block 0 1", "undo 1", "show 1", "settled 1",
    "period 1", "starts 1", "undo ", "show ", "settled ", "period ", "starts ", " undo", " show", " line 0 1",
    " script 0>1", " move 0>1", " run 1", "run  1", "run 1 ", "put  4", "put 4 ", "relation  0 1", "relation 0  1",
    "relation 0 1 ", "Show", "SHOW", "Line 0 1", "lin 0 1", "lines 0 1", "line\t0 1", "line,0 1", "line0 1", "line0",
    "script0>1", "script\t0>1", "scripts 0>1", "move0>1", "movement 0>1", "moved 0>1", "run1", "runs 1", "start",
    "start 1", "starting", "preview", "preview put 5", "log", "of 1", "first", "last", "behind 0 1", "before 0 1",
    "quit", "help", "ok", "0>1", "0 1 2", "\tshow", "show\t", "show\r", "\r", "undo\x00", "__init__", "say show",
    ("show",), ["show"], b"show", {"show": 0}, ("put", 4), 4,
]


def fresh(line=True, script=True):
    """Return a console with a live line that has been changed, and a kept script."""
    console = Console()
    if line:
        console.say("line 0 1 2")
        console.say("put 3")
        console.say("move 3<0")
    if script:
        console.say(KEPT)
    return console


def seen_of(console):
    """Return what the console's rows tell, and how far its live line can go back."""
    found = []
    for row in ["show", "settled", "period", "starts", "after 1", *[f"block {item}" for item in range(60)]]:
        found.append(answer(console, row))
    return found


def answer(console, row):
    """Return the answer of a row, or the class of its error."""
    try:
        return console.say(row)
    except MoveError as error:
        return type(error)


def undone(console):
    """Undo all operations; return the lines on the way."""
    lines = []
    while answer(console, "undo") == "ok":
        lines.append(console.say("show"))
    return lines


class ConsoleCase(ErrorCase):
    def check_row(self, error, row, line=True, script=True):
        """Check the error of a row, and that the console stays as it was."""
        console = fresh(line, script)
        before = seen_of(console)
        self.check(error, console.say, row)
        self.assertEqual(seen_of(console), before)
        self.assertEqual(undone(console), undone(fresh(line, script)))


class Answers(ConsoleCase):
    def test_line(self):
        for text in LINE_TEXTS:
            console = Console()
            self.assertEqual(console.say("line " + text), "ok")
            self.assertEqual(console.say("show"), text)
            self.check(Nothing, console.say, "undo")

    def test_new_line(self):
        console = fresh()
        self.assertEqual(console.say("line 5 6"), "ok")
        self.assertEqual(console.say("show"), "5 6")
        # A new live line has nothing to undo. The script is kept.
        self.check(Nothing, console.say, "undo")
        self.assertEqual(console.say("block 1"), "0 2")

    def test_script(self):
        for text in SCRIPT_TEXTS:
            console = fresh()
            self.assertEqual(console.say("script " + text), "ok")
            self.assertEqual(console.say("show"), "3 0 1 2")
            self.assertEqual(console.say("undo"), "ok")
        console.say("script 4>5")
        self.assertEqual([console.say("block 5"), console.say("block 1")], ["5 4", "1"])

    def test_move(self):
        console = fresh()
        self.assertEqual(console.say("move 3>1"), "0 1 3 2")
        self.assertEqual(console.say("move 2<0"), "2 0 1 3")
        self.assertEqual(console.say("show"), "2 0 1 3")
        self.assertEqual(undone(console), ["0 1 3 2", "3 0 1 2", "0 1 2 3", "0 1 2"])

    def test_put_take_undo(self):
        console = fresh()
        self.assertEqual([console.say("put 59"), console.say("show")], ["ok", "3 0 1 2 59"])
        self.assertEqual([console.say("take 0"), console.say("show")], ["ok", "3 1 2 59"])
        self.assertEqual([console.say("undo"), console.say("show")], ["ok", "3 0 1 2 59"])
        self.assertEqual(undone(console), ["3 0 1 2", "0 1 2 3", "0 1 2"])
        self.check(Nothing, console.say, "undo")

    def test_run_and_after(self):
        for times in [1, 2, 3, 9, 10, 99, MOST - 1, MOST]:
            console = fresh()
            expected = show_line(after_times((3, 0, 1, 2), SCRIPT, times=times))
            self.assertEqual(console.say(f"after {times}"), expected)
            self.assertEqual(console.say("show"), "3 0 1 2")
            self.assertEqual(console.say(f"run {times}"), expected)
            self.assertEqual(console.say("show"), expected)
            self.assertEqual(console.say("undo"), "ok")
            self.assertEqual(console.say("show"), "3 0 1 2")
        self.assertEqual(fresh().say("after 0"), "3 0 1 2")

    def test_numbers_of_1_and_31_digits(self):
        self.assertEqual(len(str(MOST)), 31)
        for digit in range(1, 10):
            self.assertEqual(fresh().say(f"run {digit}"), fresh().say(f"after {digit}"))
        self.assertEqual(fresh().say(f"run {MOST}"), "3 1 0 2")
        self.assertEqual(fresh().say(f"after {MOST}"), "3 1 0 2")
        for row in ["run", "after"]:
            for number in [MOST + 1, 2 * MOST, 10 ** 31 - 1]:
                self.check_row(NoTimes, f"{row} {number}")
            for number in ["1" * 32, 10 ** 31, 10 ** 32]:
                self.check_row(NoRow, f"{row} {number}")
        for row in ["put", "take", "block", "relation 0", "relation 60"]:
            for number in [60, 61, 100, MOST, 10 ** 31 - 1]:
                self.check_row(NoItem, f"{row} {number}")
            self.check_row(NoRow, f"{row} {10 ** 31}")

    def test_block(self):
        console = fresh(line=False)
        answers = ["-", "0 2", "1", *[str(item) for item in range(3, 60)]]
        self.assertEqual([console.say(f"block {item}") for item in range(60)], answers)
        # All items in one block.
        console.say("script " + show_script(chain_script(FULL_LINE[::-1])[::-1]))
        self.assertEqual(console.say("block 0"), " ".join(map(str, FULL_LINE)))
        self.assertEqual([console.say(f"block {item}") for item in range(1, 60)], ["-"] * 59)

    def test_relation(self):
        console = fresh(line=False)
        rows = ["relation 0 2", "relation 2 0", "relation 0 1", "relation 59 0"]
        self.assertEqual([console.say(row) for row in rows], ["ahead", "behind", "open", "open"])

    def test_settled_and_period(self):
        console = fresh(line=False)
        self.assertEqual([console.say("settled"), console.say("period")], ["1", "2"])
        console.say("script " + show_script(chain_script(FULL_LINE)))
        self.assertEqual([console.say("settled"), console.say("period")], ["59", "1"])
        console.say("script " + show_script(ring_script(FULL_LINE, [2, 3, 5, 7, 11, 13, 17])))
        self.assertEqual(console.say("period"), "510510")

    def test_starts(self):
        console = fresh()
        self.assertEqual(console.say("starts"), "0")
        for line, starts in [("0 2 1", "3"), ("2 0 1", "0"), ("1 0 2 9", "4")]:
            console.say("line " + line)
            self.assertEqual(console.say("starts"), starts)
        # All items get into one block, so every line leads to this one.
        console.say("line " + show_line(FULL_LINE[::-1]))
        console.say("script " + show_script(chain_script(FULL_LINE)[::-1]))
        self.assertEqual(console.say("starts"), str(math.factorial(60)))

    def test_answers_are_strings(self):
        for row in ROWS:
            self.assertIs(type(fresh().say(row)), str)

    def test_two_consoles_do_not_touch(self):
        one, two = fresh(), Console()
        self.check(NoRow, two.say, "show")
        two.say("line 5")
        two.say("script 5>6")
        self.assertEqual([one.say("show"), one.say("block 1"), one.say("block 6")], ["3 0 1 2", "0 2", "6"])


class Sessions(unittest.TestCase):
    def test_like_the_functions(self):
        for seed in range(20):
            dice = Dice(seed)
            console = Console()
            live = LiveLine(tuple(dice.some(FULL_LINE, [1, 2, 3, 9, 30, 60][seed % 6])))
            self.assertEqual(console.say("line " + show_line(live.line)), "ok")
            for _ in range(60):
                self.play_row(dice, console, live)
                self.assertEqual(console.say("show"), show_line(live.line))

    def play_row(self, dice, console, live):
        """Say a row, or a row for a kept script, and do the same with the live line."""
        if live.log() and dice.roll(5) == 0:
            self.assertEqual([console.say("undo"), live.undo()], ["ok", None])
            return
        word, *values = random_operation(dice, live.line)
        if word in ("put", "take"):
            self.assertEqual(console.say(f"{word} {values[0]}"), "ok")
            getattr(live, word)(values[0])
        elif word == "run":
            script, times = values
            self.assertEqual(console.say("script " + show_script(script)), "ok")
            self.check_kept(dice, console, live.line, script)
            self.assertEqual(console.say(f"run {times}"), show_line(live.run(script, times=times)))
        else:
            sign = {"behind": ">", "before": "<"}[word]
            found = console.say(f"move {values[0]}{sign}{values[1]}")
            self.assertEqual(found, show_line(getattr(live, word)(*values)))

    def check_kept(self, dice, console, line, script):
        item, other = dice.some(FULL_LINE, 2)
        times = dice.roll(1000)
        self.assertEqual(console.say(f"after {times}"), show_line(after_times(line, script, times=times)))
        self.assertEqual(console.say(f"block {item}"), " ".join(map(str, block_of(script, item))) or "-")
        self.assertEqual(console.say(f"relation {item} {other}"), relation(script, item, other))
        self.assertEqual(console.say("settled"), str(settled_after(script)))
        self.assertEqual(console.say("period"), str(period(script)))
        self.assertEqual(console.say("starts"), str(count_starts(line, script)))


class RowErrors(ConsoleCase):
    def test_bad_rows(self):
        for row in BAD_ROWS:
            for line in [True, False]:
                for script in [True, False]:
                    self.check_row(NoRow, row, line, script)

    def test_bad_numbers(self):
        for number in BAD_NUMBERS:
            for row in ["run", "put", "take", "after", "block", "relation 0", "relation"]:
                text = f"{row} {number} 1" if row == "relation" else f"{row} {number}"
                self.check_row(NoRow, text)

    def test_newlines(self):
        for row in ROWS:
            for text in [row + "\n", "\n" + row, row + "\n" + row, row[:1] + "\n" + row[1:], row.replace(" ", "\n")]:
                if "\n" in text:
                    self.check_row(NoRow, text)
        self.check_row(NoRow, "line\n0 1")
        self.check_row(NoRow, "line \n")
        self.check_row(NoRow, "script \n")
        self.check_row(NoRow, "line 0 1\nscript 0>1")

    def test_needs(self):
        for row, (needs_line, needs_script) in ROWS.items():
            for line in [True, False]:
                for script in [True, False]:
                    if needs_line > line or needs_script > script:
                        self.check_row(NoRow, row, line, script)
                    else:
                        fresh(line, script).say(row)

    def test_needs_before_other_errors(self):
        # Each of these raises another error when it has what it needs.
        later = {
            "move": NoText, "move x": NoText, "move 0>9": Missing, "run 0": NoTimes, f"run {MOST + 1}": NoTimes,
            f"after {MOST + 1}": NoTimes, "put 3": NoItem, "take 9": NoItem, "block 60": NoItem,
            "relation 0 0": NoItem, "move ": NoText, "put 60": NoItem,
        }
        for row, error in later.items():
            word = row.split(" ")[0]
            needs = [needs for example, needs in ROWS.items() if example.split(" ")[0] == word][0]
            if row != "move":
                self.check_row(error, row)
                self.check_row(NoRow, row, line=not needs[0], script=not needs[1])
            self.check_row(NoRow, row, line=False, script=False)

    def test_nothing_at_first(self):
        for row in ROWS:
            if ROWS[row] != (False, False):
                self.check(NoRow, Console().say, row)

    def test_no_text(self):
        for word, texts in [("line", BAD_LINE_TEXTS), ("script", BAD_SCRIPT_TEXTS)]:
            for text in texts:
                if isinstance(text, str):
                    self.check_row(NoRow if "\n" in text else NoText, f"{word} {text}")
        for row in ["line ", "line  ", "line  0", "line 0 ", "script ", "script  0>1", "script 0>1 "]:
            self.check_row(NoText, row)
            self.check_row(NoText, row, line=False, script=False)

    def test_move_no_text(self):
        for text in BAD_SCRIPT_TEXTS:
            if isinstance(text, str):
                self.check_row(NoRow if "\n" in text else NoText, f"move {text}")
                self.check_row(NoRow, f"move {text}", line=False)
        # More than one command is the text of a script, not of a command.
        for text in ["", " ", " 0>1", "0>1 ", "0>1 1>2", "0>1 0>1", "0>0", "0>60", "60<0", "9>9", "0 1", "3 0 1 2"]:
            self.check_row(NoText, f"move {text}")

    def test_missing(self):
        for row in ["move 0>4", "move 4>0", "move 59<58", "move 0<59"]:
            self.check_row(Missing, row)
        for kept in ["script 0>4", "script 58<59", "script 0>1 4>0"]:
            console = fresh()
            console.say(kept)
            before = seen_of(console)
            for row in ["run 1", f"run {MOST}", "after 0", "after 1", "starts"]:
                self.check(Missing, console.say, row)
            for row in ["run 0", f"run {MOST + 1}", f"after {MOST + 1}"]:
                self.check(NoTimes, console.say, row)
            self.assertEqual(seen_of(console), before)

    def test_errors_of_the_functions(self):
        for row in ["run 0", f"run {MOST + 1}", f"after {MOST + 1}"]:
            self.check_row(NoTimes, row)
        for row in ["put 0", "put 3", "put 60", "take 4", "take 59", "take 60", "block 60", "relation 60 0",
                    "relation 0 60", "relation 3 3", "relation 60 60"]:
            self.check_row(NoItem, row)
        console = Console()
        console.say("line 7")
        self.check(NoItem, console.say, "take 7")
        self.check(Nothing, console.say, "undo")
        self.assertEqual(console.say("show"), "7")

    def test_rows_go_on_after_an_error(self):
        console = fresh()
        for row in ["move 9>0", "line", "line 0 0", "script 0>0", "run 0", "put 3", "nothing", None]:
            self.assertRaises(MoveError, console.say, row)
        self.assertEqual([console.say("show"), console.say("block 1"), console.say("run 1")],
                         ["3 0 1 2", "0 2", "3 0 2 1"])


if __name__ == "__main__":
    unittest.main()
