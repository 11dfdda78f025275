"""[3], [4], [14], section 12: show_line, read_line, show_script and read_script."""

import re
import unittest

from moveafter.errors import NoLine, NoScript, NoText
from moveafter.lines import is_line, is_script
from moveafter.texts import read_line, read_script, show_line, show_script
from tests.samples import BAD_LINES, BAD_SCRIPTS, FULL_LINE, SCRIPT, STRANGE, Dice, ErrorCase, sample_scripts

ITEM = "([0-9]|[1-5][0-9])"

LINE_TEXTS = ["0", "59", "3 10", "3 10 0", "0 1 2", " ".join(map(str, FULL_LINE)), " ".join(map(str, FULL_LINE[::-1]))]

SCRIPT_TEXTS = ["0>1", "59<58", "0>1 1<2", "0>1 1>2 2>0", " ".join(["59>58"] * 200), " ".join(["0<1", "10>0"] * 100)]

# Among the strange values are two texts of lines.
BAD_LINE_TEXTS = [
    *[value for value in STRANGE if value not in ("0", "0 1 2")],
    " ", "\n", " 0", "0 ", "0  1", "0\n1", "0 1\n", "\n0", "0\t1", "0,1", "0, 1", "0;1", "(0, 1)", "(0,)", "[0]",
    "00", "01", "0 01", "00 1", "007", "-1", "-0", "+1", "1.", "1.0", "1e1", "0x1", "0b1", "1_0", "0 1_0", "a", "0 a",
    "0>1", "60", "61", "100", "0 60", "0 0", "3 3", "0 1 0", "9" * 31, "9" * 100, "9" * 4000, "9" * 9000, "0 " * 60,
    " ".join(map(str, range(61))), " ".join(map(str, FULL_LINE)) + " 0", " ".join(map(str, range(1, 61))),
    "\u0661", "0 \u0662", "\u00b2", "\uff11", "1\u00a02", "0\r", "0\x00", ("0",), ["0", "1"], (0, 1), b"0 1", [0, 1],
]

BAD_SCRIPT_TEXTS = [
    *STRANGE,
    " ", "\n", " 0>1", "0>1 ", "0>1  1>2", "0>1\n1>2", "0>1\n", "\n0>1", "0>1\t1>2", "0>1,1>2", "0 1", "0", "0>",
    ">1", ">", "<", "0<", "<1", "0 > 1", "0> 1", "0 >1", "0>>1", "0<>1", "0><1", "0<<1", "0>1>2", "0<1<2", "0>1<2",
    "0<1>2", "0=1", "0-1", "0>=1", "1>1", "0<0", "0>1 2>2", "0>1 2", "2 0>1", "00>1", "0>01", "0>00", "01<2", "-1>0",
    "0>-1", "+1>0", "0>+1", "1_0>2", "2>1_0", "0>60", "60>0", "0<60", "100<3", "0>a", "a>0", "a", "behind 0 1",
    "0>1 0>60", "9" * 4000 + ">0", "0>" + "9" * 9000, " ".join(["0>1"] * 201), " ".join(["0>1"] * 300),
    " ".join(["0>1"] * 199 + ["0>0"]), "\u0661>0", "0>\u0662", "0\uff1e1", "\u00b2>1", "0>1\r", "(0>1)", "'0>1'",
    (("behind", 0, 1),), SCRIPT, ["0>1"], ("0>1",), b"0>1", {"0>1": 1},
]


def plain_script_text(script):
    return " ".join(str(item) + {"behind": ">", "before": "<"}[word] + str(other) for word, item, other in script)


def is_line_text(text):
    if not re.fullmatch(f"{ITEM}( {ITEM})*", text):
        return False
    items = text.split(" ")
    return len(items) <= 60 and len(set(items)) == len(items)


def is_script_text(text):
    if not re.fullmatch(f"{ITEM}[<>]{ITEM}( {ITEM}[<>]{ITEM})*", text):
        return False
    commands = [re.split("[<>]", word) for word in text.split(" ")]
    return len(commands) <= 200 and all(item != other for item, other in commands)


class LineTexts(unittest.TestCase):
    def test_there_and_back(self):
        dice = Dice(81)
        for many in range(1, 61):
            for _ in range(5):
                line = tuple(dice.some(FULL_LINE, many))
                text = " ".join([str(item) for item in line])
                self.assertEqual(show_line(line), text)
                self.assertIs(type(show_line(line)), str)
                self.assertEqual(read_line(text), line)
                self.assertIs(is_line(read_line(text)), True)

    def test_texts(self):
        for text in LINE_TEXTS:
            line = read_line(text)
            self.assertEqual(line, tuple(int(word) for word in text.split()))
            self.assertEqual(show_line(line), text)

    def test_each_item(self):
        for item in range(150):
            if item < 60:
                self.assertEqual(read_line(str(item)), (item,))
                self.assertEqual(show_line((item,)), str(item))
            else:
                self.assertRaises(NoText, read_line, str(item))


class ScriptTexts(unittest.TestCase):
    def test_there_and_back(self):
        for script in sample_scripts():
            text = plain_script_text(script)
            self.assertEqual(show_script(script), text)
            self.assertIs(type(show_script(script)), str)
            self.assertEqual(read_script(text), script)
            self.assertIs(is_script(read_script(text)), True)

    def test_texts(self):
        for text in SCRIPT_TEXTS:
            self.assertEqual(show_script(read_script(text)), text)

    def test_signs(self):
        self.assertEqual(read_script("3>4"), (("behind", 3, 4),))
        self.assertEqual(read_script("3<4"), (("before", 3, 4),))
        self.assertEqual(show_script((("behind", 4, 3),)), "4>3")
        self.assertEqual(show_script((("before", 4, 3),)), "4<3")

    def test_all_commands(self):
        for item in range(62):
            for other in range(62):
                for word, sign in [("behind", ">"), ("before", "<")]:
                    text = f"{item}{sign}{other}"
                    if item != other and item < 60 and other < 60:
                        self.assertEqual(read_script(text), ((word, item, other),))
                        self.assertEqual(show_script(((word, item, other),)), text)
                    else:
                        self.assertRaises(NoText, read_script, text)

    def test_edges(self):
        for many in [1, 2, 199, 200]:
            script = (("before", 58, 59),) * many
            self.assertEqual(read_script(show_script(script)), script)


class TextErrors(ErrorCase):
    def test_show(self):
        self.check_faults(show_line, {"line": (0, 1, 2)}, [(NoLine, "line", BAD_LINES)])
        self.check_faults(show_script, {"script": SCRIPT}, [(NoScript, "script", BAD_SCRIPTS)])
        self.check(NoLine, show_line, SCRIPT)
        self.check(NoScript, show_script, (0, 1, 2))
        self.check(NoLine, show_line, ())
        self.check(NoScript, show_script, ())

    def test_read_line(self):
        self.check_faults(read_line, {"text": "0 1"}, [(NoText, "text", BAD_LINE_TEXTS)])

    def test_read_script(self):
        self.check_faults(read_script, {"text": "0>1"}, [(NoText, "text", BAD_SCRIPT_TEXTS)])

    def test_one_for_the_other(self):
        for text in LINE_TEXTS:
            self.check(NoText, read_script, text)
        for text in SCRIPT_TEXTS:
            self.check(NoText, read_line, text)

    def test_one_sign_more_or_other(self):
        signs = ["", " ", "\n", "\t", "0", "6", ">", "<", ",", "-", "+", "_", ".", "a", "\u0661"]
        for text in ["0", "7", "3 10 0", "59 5", "0>1", "10<2 3>40"]:
            for at in range(len(text) + 1):
                for sign in signs:
                    self.check_text(text[:at] + sign + text[at:])
                    self.check_text(text[:at] + sign + text[at + 1:])

    def check_text(self, text):
        for function, shown, expected in [(read_line, show_line, is_line_text(text)),
                                          (read_script, show_script, is_script_text(text))]:
            if expected:
                self.assertEqual(shown(function(text)), text)
            else:
                self.check(NoText, function, text)


if __name__ == "__main__":
    unittest.main()
