"""[3], [5], [6], [8], [12]: is_line, is_command, is_script, is_effect and is_friends."""

import copy
import unittest

from moveafter.blocks import is_effect
from moveafter.friends import is_friends
from moveafter.lines import is_command, is_line, is_script
from tests.samples import (BAD_FRIENDS, FULL_LINE, SCRIPT, STRANGE, Dice, sample_friends, sample_scripts,
                           slow_blocks)

COMMAND = ("behind", 0, 1)

LINES = [(0,), (59,), (3, 0), (0, 1, 2), FULL_LINE, FULL_LINE[::-1]]

COMMANDS = [("behind", 0, 1), ("before", 0, 1), ("behind", 59, 0), ("before", 0, 59)]

SCRIPTS = [(COMMAND,), SCRIPT, (COMMAND,) * 2, (COMMAND,) * 200]

EFFECTS = [
    {0: (0,)}, {59: (59,)}, {0: (), 1: (0, 1)}, {0: (1,), 1: (0,)}, {1: (), 0: (1, 0)},
    {item: (item,) for item in FULL_LINE}, {item: FULL_LINE if item == 7 else () for item in FULL_LINE},
]

FRIENDS = [
    {0: None}, {59: None}, {0: 1, 1: None}, {1: 0, 0: 1}, {0: 1, 1: 2, 2: 0}, {7: None, 3: 7, 59: 3, 0: 59},
    {item: None for item in FULL_LINE}, {item: (item + 1) % 60 for item in FULL_LINE},
]


def spoiled_tuples(value, first=0):
    """Yield what is the value but for one part; the parts from the first one on are items."""
    yield list(value)
    yield [value]
    yield (value,)
    for at in range(first, len(value)):
        for other in [*STRANGE, [value[at]], (value[at],), {value[at]: None}, str(value[at])]:
            yield value[:at] + (other,) + value[at + 1:]


class Checks(unittest.TestCase):
    def check(self, function, value, expected):
        shown = repr(value)
        result = function(value)
        self.assertIs(result, expected, shown)
        self.assertEqual(repr(value), shown)


class Forms(Checks):
    def test_strange_values(self):
        for function in [is_line, is_command, is_script, is_effect]:
            for value in STRANGE:
                self.check(function, value, False)
                self.check(function, (value,), False)
                self.check(function, (value, value, value), False)
                self.check(function, [value], False)

    def test_of_another_kind(self):
        kinds = {is_line: LINES, is_command: COMMANDS, is_script: SCRIPTS, is_effect: EFFECTS,
                 is_friends: FRIENDS}
        for function in kinds:
            for other, values in kinds.items():
                for value in values:
                    self.check(function, value, function == other)

    def test_deep_values(self):
        deep = 0
        for _ in range(18):
            deep = (deep,)
        for function in [is_line, is_command, is_script, is_effect, is_friends]:
            for value in [deep, [deep], {0: deep}, ("behind", 0, deep)]:
                self.check(function, value, False)

    def test_long_values(self):
        for function in [is_line, is_script, is_effect, is_friends]:
            for value in [(0,) * 300, (COMMAND,) * 300, tuple(range(300)), {item: (item,) for item in range(300)},
                          {item: None for item in range(300)}]:
                self.check(function, value, False)


class Lines(Checks):
    def test_spoiled(self):
        for line in [(0,), (3, 0), (4, 5, 6, 7)]:
            for value in spoiled_tuples(line):
                self.check(is_line, value, False)

    def test_bools(self):
        for value in [(True,), (False,), (0, True), (False, 1), (True, 2), (2, False, 3)]:
            self.check(is_line, value, False)

    def test_doubled(self):
        for value in [(3, 3), (0, 1, 0), (0, 0, 1), FULL_LINE[:59] + (0,), (5,) * 60]:
            self.check(is_line, value, False)

    def test_edges(self):
        self.check(is_line, (), False)
        self.check(is_line, FULL_LINE + (0,), False)
        self.check(is_line, FULL_LINE + (60,), False)
        self.check(is_line, tuple(range(1, 61)), False)
        self.check(is_line, tuple(range(-1, 59)), False)
        for many in range(1, 61):
            self.check(is_line, FULL_LINE[:many], True)
            self.check(is_line, FULL_LINE[60 - many:], True)

    def test_each_item(self):
        for item in range(-70, 140):
            self.check(is_line, (item,), 0 <= item <= 59)
            self.check(is_line, (7, item), 0 <= item <= 59 and item != 7)


class Commands(Checks):
    def test_spoiled(self):
        for command in [("behind", 4, 5), ("before", 59, 0)]:
            for value in spoiled_tuples(command, first=1):
                self.check(is_command, value, False)

    def test_words(self):
        words = ["Behind", "BEFORE", "behind ", " before", "after", "beh", "in", "", "behindbefore", b"behind",
                 ("behind",), ["behind"], ["behind", "before"], ("behind", "before")]
        for word in words + [word for word in STRANGE if word != "behind"]:
            self.check(is_command, (word, 0, 1), False)

    def test_added_and_removed(self):
        values = [("behind",), ("behind", 0), (0, 1), ("behind", 0, 1, 2), ("behind", 0, 1, "behind"),
                  ("behind", "behind", 0, 1), (0, 1, "behind"), (0, "behind", 1), "behind 0 1", ["behind", 0, 1]]
        for value in values:
            self.check(is_command, value, False)

    def test_items(self):
        for item in range(-2, 62):
            for other in range(-2, 62):
                expected = 0 <= item <= 59 and 0 <= other <= 59 and item != other
                self.check(is_command, ("before", item, other), expected)

    def test_bools(self):
        for items in [(True, 0), (0, True), (False, 1), (1, False), (True, False), (2, True)]:
            self.check(is_command, ("behind", *items), False)


class Scripts(Checks):
    def test_samples(self):
        for script in sample_scripts():
            self.check(is_script, script, True)
            self.check(is_script, list(script), False)

    def test_spoiled_command(self):
        spoiled = [("behind", 0, 0), ("behind", 0, 60), ("behind", -1, 0), ("behind", 0, True), ("after", 0, 1),
                   ("behind", 0), ("behind", 0, 1, 2), ["behind", 0, 1], (COMMAND,), "behind", None, 0, (), {}]
        for wrong in spoiled:
            for at in range(len(SCRIPT)):
                self.check(is_script, SCRIPT[:at] + (wrong,) + SCRIPT[at + 1:], False)
                self.check(is_script, SCRIPT[:at] + (wrong,) + SCRIPT[at:], False)
            self.check(is_script, (COMMAND,) * 199 + (wrong,), False)
            self.check(is_script, (wrong,), False)

    def test_edges(self):
        self.check(is_script, (), False)
        for many in [1, 2, 199, 200]:
            self.check(is_script, (COMMAND,) * many, True)
        for many in [201, 202, 300]:
            self.check(is_script, (COMMAND,) * many, False)


class Effects(Checks):
    def test_samples(self):
        dice = Dice(11)
        for script in sample_scripts():
            blocks = slow_blocks(script)
            keys = dice.shuffled(blocks)
            self.check(is_effect, {key: blocks[key] for key in keys}, True)

    def test_lists_as_blocks(self):
        for effect in EFFECTS:
            for key in effect:
                self.check(is_effect, {**effect, key: list(effect[key])}, False)

    def test_spoiled_keys(self):
        for effect in EFFECTS[:5]:
            for key in effect:
                for wrong in [-1, 60, None, "0", (0,), (), True, "behind", b"0"]:
                    value = {wrong if old == key else old: block for old, block in effect.items()}
                    self.check(is_effect, value, False)

    def test_spoiled_blocks(self):
        for effect in EFFECTS:
            for key in effect:
                for wrong in STRANGE:
                    if wrong != effect[key]:
                        self.check(is_effect, {**effect, key: wrong}, False)

    def test_parts_removed_added_doubled(self):
        for effect in EFFECTS:
            for key, block in effect.items():
                # Without an item that is its own block, the others are an effect.
                alone = block == (key,) and len(effect) > 1
                self.check(is_effect, {old: effect[old] for old in effect if old != key}, alone)
                self.check(is_effect, {**effect, key: block + (key,)}, False)
                self.check(is_effect, {**effect, key: block + (60,)}, False)
                self.check(is_effect, {**effect, key: block + (-1,)}, False)
                self.check(is_effect, {**effect, key: block + (None,)}, False)
                if block:
                    self.check(is_effect, {**effect, key: block[1:]}, False)
                    self.check(is_effect, {**effect, key: block + block}, False)
                    self.check(is_effect, {**effect, key: block[:-1] + (str(block[-1]),)}, False)
                    self.check(is_effect, {**effect, key: block[:-1] + ((block[-1],),)}, False)

    def test_other_items(self):
        for value in [{0: (1,)}, {0: (0, 1)}, {0: (1,), 1: (2,)}, {0: (), 1: (0,)}, {0: (), 1: ()}, {0: (0, 0)},
                      {0: (0,), 1: (0,)}, {0: (0, 1), 1: (1,)}, {3: ()}]:
            self.check(is_effect, value, False)

    def test_bools(self):
        for value in [{0: (False,)}, {False: (0,)}, {True: (True,)}, {True: (1,)}, {1: (True,)},
                      {0: (True,), 1: (0,)}, {0: (0, True), 1: ()}, {0: (), True: (0, 1)}]:
            self.check(is_effect, value, False)

    def test_edges(self):
        self.check(is_effect, {}, False)
        self.check(is_effect, {item: (item,) for item in range(61)}, False)
        self.check(is_effect, {item: (item,) for item in range(-1, 59)}, False)
        self.check(is_effect, {item: (item,) for item in range(1, 61)}, False)
        for many in range(1, 61):
            self.check(is_effect, {item: (item,) for item in range(many)}, True)
        for item in range(-3, 63):
            self.check(is_effect, {item: (item,)}, 0 <= item <= 59)

    def test_in_place_of_a_dict(self):
        for value in [((0, (0,)),), [(0, (0,))], (0, (0,)), [0], (0,), {0}, (1, 0)]:
            self.check(is_effect, value, False)

    def test_argument_unchanged(self):
        for effect in EFFECTS:
            before = copy.deepcopy(effect)
            is_effect(effect)
            self.assertEqual(list(effect.items()), list(before.items()))


class Friends(Checks):
    def test_samples(self):
        for friends in [*FRIENDS, *sample_friends()]:
            self.check(is_friends, friends, True)
            self.check(is_friends, tuple(friends.items()), False)
            self.check(is_friends, [friends], False)

    def test_wrong(self):
        for value in BAD_FRIENDS:
            self.check(is_friends, value, False)
            self.check(is_friends, (value,), False)
            self.check(is_friends, [value], False)

    def test_spoiled_friend(self):
        for friends in FRIENDS:
            for key in friends:
                missing = [item for item in range(-1, 62) if item not in friends]
                for wrong in [*STRANGE, *missing, key, (0,), {}, str(friends[key])]:
                    if wrong is not None and (not type(wrong) is int or wrong not in friends or wrong == key):
                        self.check(is_friends, {**friends, key: wrong}, False)

    def test_spoiled_key(self):
        for friends in FRIENDS:
            for wrong in [-1, 60, None, "0", (0,), (), "", b"0", 10 ** 99]:
                self.check(is_friends, {**friends, wrong: None}, False)
                self.check(is_friends, {**friends, wrong: 0}, False)
            for old in friends:
                self.check(is_friends, {item: friends[item] for item in friends if item != old} | {-1: None}, False)

    def test_bools(self):
        for value in [{False: None}, {True: None}, {0: True, 1: None}, {1: False, 0: None}, {True: 0, 0: None},
                      {0: 1, True: None}, {False: 1, 1: None}, {0: False}]:
            self.check(is_friends, value, False)

    def test_every_friend(self):
        for item in range(-3, 63):
            self.check(is_friends, {item: None}, 0 <= item <= 59)
            self.check(is_friends, {7: item, 59: None, 0: 59}, item in (0, 59))

    def test_friend_that_is_no_key(self):
        for friends in FRIENDS:
            for gone in friends:
                rest = {item: friends[item] for item in friends if item != gone}
                self.check(is_friends, rest, rest != {} and gone not in rest.values())

    def test_edges(self):
        self.check(is_friends, {}, False)
        for many in range(1, 61):
            self.check(is_friends, {item: None for item in range(many)}, True)
            self.check(is_friends, {item: (item + 1) % many for item in range(many)}, many > 1)
        self.check(is_friends, {item: None for item in range(61)}, False)
        self.check(is_friends, {item: None for item in range(1, 61)}, False)


if __name__ == "__main__":
    unittest.main()
