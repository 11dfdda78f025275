"""Sample values for the tests, slow, plain ways to work out what the package must return, and checks of errors."""

import itertools
import unittest

from moveafter.errors import MoveError

SCRIPT = (("behind", 0, 1), ("behind", 1, 2), ("behind", 2, 0))

COMMAND = SCRIPT[0]

FULL_LINE = tuple(range(60))

# Values that are no integer, tuple or dict of the kinds that the document defines.
STRANGE = (
    None, True, False, "", "0", "behind", "0 1 2", b"", b"\x00\x01", -1, 60, 10 ** 99, -(10 ** 99),
    (), [], {}, set(), {0, 1}, [0], [0, 1], ((),), ([],), [()], {0: None}, {0: [0]}, {"0": ()}, {None: None},
    object(), len, int, ValueError("0"), range(3), (None,), ("",), (((0,),),), [[[[[0]]]]],
)

BAD_LINES = [*STRANGE, [0, 1, 2], (0, 0), (0, 60), (True, 0), FULL_LINE + (0,), FULL_LINE + (60,)]

BAD_SCRIPTS = [*STRANGE, list(SCRIPT), COMMAND, (list(COMMAND),), SCRIPT + (("behind", 1, 1),),
               (COMMAND,) * 201, SCRIPT + (("behind", 0, 60),), SCRIPT + (("after", 0, 1),)]

BAD_ITEMS = [*STRANGE, 61, -60, "3", (3,), [3]]

BAD_EFFECTS = [*STRANGE, {0: [0]}, {0: (1,)}, {0: (0,), 1: ()}, {0: (0, 1), 1: (1,)}, {True: (1,)}, {0: (False,)},
               {60: (60,)}, ((0, (0,)),), {item: (item,) for item in range(61)}]

# Of the strange values, {0: None} alone is friends.
BAD_FRIENDS = [*[value for value in STRANGE if value != {0: None}], {0: 0}, {0: 1}, {0: 1, 1: 2}, {0: 1, 1: True},
               {True: None}, {0: False, 1: None}, {60: None}, {-1: None}, {0: 60, 60: None}, {0: "1", 1: None},
               {0: (1,), 1: None}, {0: [1], 1: None}, {0: None, "1": None}, ((0, None),), {0: None, None: 0},
               {item: None for item in range(61)}]

# Of the strange values, 60 alone is a number of repetitions.
BAD_TIMES = [*[value for value in STRANGE if value != 60], -(10 ** 30), 10 ** 30 + 1, 2 * 10 ** 30, "1", (1,), [1]]

# The parameters that are passed by keyword.
KEYWORDS = ("times", "days")


class Dice:
    """A small generator of numbers: the same ones in every run."""

    def __init__(self, seed):
        self.state = seed

    def roll(self, sides):
        self.state = (self.state * 6364136223846793005 + 1442695040888963407) % 2 ** 64
        return (self.state >> 33) % sides

    def shuffled(self, items):
        rest = list(items)
        return [rest.pop(self.roll(len(rest))) for _ in range(len(rest))]

    def some(self, items, many):
        return self.shuffled(items)[:many]

    def script(self, items, many):
        commands = []
        for _ in range(many):
            word = ("behind", "before")[self.roll(2)]
            commands.append((word, *self.some(items, 2)))
        return tuple(commands)


def slow_moved(line, command):
    word, item, other = command
    result = []
    for present in line:
        if present == item:
            continue
        if present == other and word == "before":
            result.append(item)
        result.append(present)
        if present == other and word == "behind":
            result.append(item)
    return tuple(result)


def slow_after(line, script):
    for command in script:
        line = slow_moved(line, command)
    return line


def slow_items(script):
    return [item for item in range(60) if any(item in command[1:] for command in script)]


def slow_blocks(script):
    """Move the items between blocks, as the table of the document does."""
    blocks = {item: [item] for item in slow_items(script)}
    for word, item, other in script:
        for block in blocks.values():
            if item in block:
                block.remove(item)
        for block in blocks.values():
            if other in block:
                at = block.index(other)
                block.insert(at + 1 if word == "behind" else at, item)
    return {item: tuple(block) for item, block in blocks.items()}


def slow_blocks_after(script, times):
    return slow_blocks(script * times) if times else {item: (item,) for item in slow_items(script)}


def slow_sources(blocks):
    return {item: source for source, block in blocks.items() for item in block}


def some_friends(dice, items, loners):
    """Return friends in which so many items have no friend, and the others any other one."""
    alone = dice.some(items, loners)
    return {item: None if item in alone else dice.some([other for other in items if other != item], 1)[0]
            for item in dice.shuffled(items)}


def sample_friends():
    """Yield friends of many sizes, with and without rings."""
    dice = Dice(61)
    for size, loners in [(1, 1), (2, 0), (2, 1), (2, 2), (3, 0), (3, 1), (5, 0), (5, 2), (9, 1), (20, 0), (20, 15),
                         (40, 3), (60, 0), (60, 1), (60, 30), (60, 60)]:
        for _ in range(5):
            yield some_friends(dice, dice.some(FULL_LINE, size), loners)


def slow_day(line, friends):
    for item in range(60):
        if friends.get(item) is not None:
            line = slow_moved(line, ("behind", item, friends[item]))
    return line


def lines_of(items):
    """Return all lines of the items, ascending."""
    return list(itertools.permutations(sorted(items)))


def sample_scripts():
    """Yield scripts of many lengths over few and many items."""
    dice = Dice(5)
    for size, many in [(2, 1), (2, 2), (2, 7), (3, 1), (3, 3), (3, 9), (5, 4), (5, 30), (12, 8), (12, 100),
                       (30, 40), (60, 1), (60, 90), (60, 200)]:
        for _ in range(6):
            yield dice.script(dice.some(range(60), size), many)


def all_commands(items):
    return [(word, item, other) for word in ("behind", "before") for item in items for other in items if item != other]


def small_scripts():
    """Yield all scripts of one or two commands on three items, and some longer ones on up to four."""
    commands = all_commands([0, 1, 2])
    yield from [(command,) for command in commands]
    yield from itertools.product(commands, commands)
    dice = Dice(31)
    for size, many in [(3, 3), (3, 4), (3, 6), (4, 3), (4, 4), (4, 5), (4, 7), (4, 12)]:
        for _ in range(12):
            yield dice.script(dice.some(range(60), size), many)


def chain_script(items):
    """Return the script that moves each item but the last one behind the next one."""
    return tuple(("behind", item, other) for item, other in zip(items, items[1:]))


def ring_script(items, lengths):
    """Return a script whose sources have rings of these lengths, of the items in order.

    The first item keeps a place in each ring free, and at last it goes behind the last item, which stays.
    """
    helper, *rest = items
    commands = []
    for length in lengths:
        ring, rest = rest[:length], rest[length:]
        commands += chain_script([helper, *ring, helper])
    return (*commands, ("behind", helper, items[-1]))


class ErrorCase(unittest.TestCase):
    """Checks that a call raises the error that is listed first of those that apply."""

    def check(self, error, function, *arguments, **keywords):
        shown = repr((arguments, keywords))
        with self.assertRaises(MoveError, msg=shown) as caught:
            function(*arguments, **keywords)
        self.assertIs(type(caught.exception), error, shown)
        self.assertIsInstance(caught.exception, ValueError)
        self.assertEqual(repr((arguments, keywords)), shown)

    def check_faults(self, function, arguments, faults):
        """Check each fault (an error, a parameter's name, wrong values) alone and beside each later one.

        The faults stand in the order in which their errors are listed.
        """
        self.call(None, function, arguments)
        for at, (error, name, values) in enumerate(faults):
            for value in values:
                self.call(error, function, {**arguments, name: value})
            for _, other_name, other_values in faults[at + 1:]:
                if other_name != name:
                    for value, other in itertools.product(values[::5], other_values[::5]):
                        self.call(error, function, {**arguments, name: value, other_name: other})
            # All later faults at once.
            for value in values:
                spoiled = {later[1]: later[2][0] for later in reversed(faults[at:])}
                self.call(error, function, {**arguments, **spoiled, name: value})

    def call(self, error, function, arguments):
        by_position = [value for name, value in arguments.items() if name not in KEYWORDS]
        by_keyword = {name: value for name, value in arguments.items() if name in KEYWORDS}
        if error is None:
            function(*by_position, **by_keyword)
        else:
            self.check(error, function, *by_position, **by_keyword)
