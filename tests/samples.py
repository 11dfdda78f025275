"""Sample values for the tests, and slow, plain ways to work out what the package must return."""

SCRIPT = (("behind", 0, 1), ("behind", 1, 2), ("behind", 2, 0))

FULL_LINE = tuple(range(60))

# Values that are no integer, tuple or dict of the kinds that the document defines.
STRANGE = (
    None, True, False, "", "0", "behind", "0 1 2", b"", b"\x00\x01", -1, 60, 10 ** 99, -(10 ** 99),
    (), [], {}, set(), {0, 1}, [0], [0, 1], ((),), ([],), [()], {0: None}, {0: [0]}, {"0": ()}, {None: None},
    object(), len, int, ValueError("0"), range(3), (None,), ("",), (((0,),),), [[[[[0]]]]],
)


class Dice:
    """A small generator of numbers: the same ones in every run."""

    def __init__(self, seed):
        self.state = seed

    def roll(self, sides):
        self.state = (self.state * 6364136223846793005 + 1442695040888963407) % 2 ** 64
        return (self.state >> 33) % sides

    def shuffled(self, items):
        rest = list(items)
        return [rest.pop(self.roll(len(rest))) for _ in range(len(rest))]

    def some(self, items, many):
        return self.shuffled(items)[:many]

    def script(self, items, many):
        commands = []
        for _ in range(many):
            word = ("behind", "before")[self.roll(2)]
            commands.append((word, *self.some(items, 2)))
        return tuple(commands)


def slow_moved(line, command):
    word, item, other = command
    result = []
    for present in line:
        if present == item:
            continue
        if present == other and word == "before":
            result.append(item)
        result.append(present)
        if present == other and word == "behind":
            result.append(item)
    return tuple(result)


def slow_after(line, script):
    for command in script:
        line = slow_moved(line, command)
    return line


def slow_items(script):
    return [item for item in range(60) if any(item in command[1:] for command in script)]


def slow_blocks(script):
    """Move the items between blocks, as the table of the document does."""
    blocks = {item: [item] for item in slow_items(script)}
    for word, item, other in script:
        for block in blocks.values():
            if item in block:
                block.remove(item)
        for block in blocks.values():
            if other in block:
                at = block.index(other)
                block.insert(at + 1 if word == "behind" else at, item)
    return {item: tuple(block) for item, block in blocks.items()}


def sample_scripts():
    """Yield scripts of many lengths over few and many items."""
    dice = Dice(5)
    for size, many in [(2, 1), (2, 2), (2, 7), (3, 1), (3, 3), (3, 9), (5, 4), (5, 30), (12, 8), (12, 100),
                       (30, 40), (60, 1), (60, 90), (60, 200)]:
        for _ in range(6):
            yield dice.script(dice.some(range(60), size), many)


def all_commands(items):
    return [(word, item, other) for word in ("behind", "before") for item in items for other in items if item != other]
