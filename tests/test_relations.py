"""[2], [3], [4], section 7: relation, deciding and relation_with."""

import itertools
import unittest

from moveafter.errors import NoItem, NoPairs, NoScript, NoTimes
from moveafter.relations import deciding, relation, relation_with
from moveafter.repeats import after_times
from tests.samples import (BAD_ITEMS, BAD_SCRIPTS, BAD_TIMES, FULL_LINE, SCRIPT, STRANGE, Dice, ErrorCase,
                           chain_script, lines_of, ring_script, sample_scripts, slow_after, slow_items, small_scripts)

MOST = 10 ** 30

KNOWN = [(), ((1, 2),), ((2, 1),), ((0, 1), (1, 2)), ((2, 7), (7, 1)), ((1, 7), (7, 2), (1, 7))]


def is_ahead(line, item, other):
    return line.index(item) < line.index(other)


def slow_relation(lines, item, other):
    """Return the relation on these lines."""
    found = {is_ahead(line, item, other) for line in lines}
    return "open" if len(found) == 2 else "ahead" if True in found else "behind"


def plays(script, items, many):
    """Yield the number of repetitions and a dict from each line of the items to the line after them."""
    after = {line: line for line in lines_of(items)}
    for times in range(many):
        yield times, after
        after = {line: slow_after(present, script) for line, present in after.items()}


def with_another(script):
    """Return the named items and one that the script does not name."""
    named = slow_items(script)
    return sorted([*named, min(set(FULL_LINE) - set(named))])


def scripts_to_play():
    """Return some of the small scripts."""
    return list(small_scripts())[::4]


class Relation(unittest.TestCase):
    def test_all_lines(self):
        for script in scripts_to_play():
            items = with_another(script)
            for times, after in plays(script, items, 4):
                for item, other in itertools.permutations(items, 2):
                    expected = slow_relation(after.values(), item, other)
                    self.assertEqual(relation(script, item, other, times=times), expected)

    def test_opposite(self):
        opposite = {"ahead": "behind", "behind": "ahead", "open": "open"}
        for script in sample_scripts():
            for item, other in itertools.combinations(slow_items(script)[:9], 2):
                for times in [1, 2, MOST]:
                    self.assertEqual(relation(script, other, item, times=times),
                                     opposite[relation(script, item, other, times=times)])

    def test_not_repeated(self):
        for item, other in [(0, 1), (2, 0), (7, 0), (7, 9)]:
            self.assertEqual(relation(SCRIPT, item, other, times=0), "open")

    def test_without_times(self):
        for script in sample_scripts():
            for item, other in itertools.permutations(slow_items(script)[:7], 2):
                self.assertEqual(relation(script, item, other), relation(script, item, other, times=1))

    def test_items_that_are_not_named(self):
        for times in [0, 1, 2, MOST]:
            for item, other in [(9, 0), (0, 9), (9, 59), (59, 9)]:
                self.assertEqual(relation(SCRIPT, item, other, times=times), "open")

    def test_long_chain(self):
        # At last the line of the chain stands in one block, from the last item on.
        script = chain_script(FULL_LINE)
        for item, other in [(0, 59), (30, 31), (58, 59), (0, 1)]:
            self.assertEqual(relation(script, item, other, times=MOST), "behind")
            self.assertEqual(relation(script, other, item, times=MOST), "ahead")
        self.assertEqual([relation(script, 0, 59, times=times) for times in [1, 58, 59, 60]],
                         ["open", "open", "behind", "behind"])

    def test_sixty_items(self):
        dice = Dice(61)
        for script in [dice.script(FULL_LINE, 200), dice.script(FULL_LINE, 90)]:
            lines = [tuple(dice.shuffled(FULL_LINE)) for _ in range(8)]
            for times in [1, 2, 3, MOST]:
                after = [after_times(line, script, times=times) for line in lines]
                for item, other in [dice.some(FULL_LINE, 2) for _ in range(60)]:
                    found = relation(script, item, other, times=times)
                    if found != "open":
                        self.assertEqual(slow_relation(after, item, other), found)


class Deciding(unittest.TestCase):
    def test_all_lines(self):
        for script in scripts_to_play():
            items = with_another(script)
            for times, after in plays(script, items, 4):
                for item, other in itertools.permutations(items, 2):
                    found = deciding(script, item, other, times=times)
                    if slow_relation(after.values(), item, other) != "open":
                        self.assertIsNone(found)
                        continue
                    self.assertIs(type(found), tuple)
                    first, second = found
                    for line, present in after.items():
                        self.assertEqual(is_ahead(present, item, other), is_ahead(line, first, second))

    def test_not_repeated(self):
        for item, other in [(0, 1), (2, 0), (7, 0), (7, 9)]:
            self.assertEqual(deciding(SCRIPT, item, other, times=0), (item, other))

    def test_items_that_are_not_named(self):
        self.assertEqual(deciding(SCRIPT, 9, 59), (9, 59))
        self.assertEqual([deciding(SCRIPT, 9, item) for item in [0, 1, 2]], [(9, 1), (9, 2), (9, 1)])
        self.assertEqual([deciding(SCRIPT, item, 9, times=MOST) for item in [0, 1, 2]], [(2, 9), (1, 9), (2, 9)])

    def test_without_times(self):
        for script in sample_scripts():
            for item, other in itertools.permutations(slow_items(script)[:7], 2):
                self.assertEqual(deciding(script, item, other), deciding(script, item, other, times=1))

    def test_many_repetitions(self):
        dice = Dice(62)
        scripts = [ring_script(dice.shuffled(FULL_LINE), lengths) for lengths in [[2, 3], [7, 5, 4], [29, 29]]]
        for script in [*scripts, dice.script(FULL_LINE, 100), chain_script(FULL_LINE)]:
            lines = [tuple(dice.shuffled(FULL_LINE)) for _ in range(6)]
            for times in [10, MOST, MOST - 1]:
                after = [after_times(line, script, times=times) for line in lines]
                for item, other in [dice.some(FULL_LINE, 2) for _ in range(40)]:
                    found = deciding(script, item, other, times=times)
                    self.assertEqual(found is None, relation(script, item, other, times=times) != "open")
                    for line, present in zip(lines, after):
                        if found is not None:
                            self.assertEqual(is_ahead(present, item, other), is_ahead(line, *found))


class RelationWith(ErrorCase):
    def test_all_lines(self):
        dice = Dice(63)
        for script in list(small_scripts())[::9]:
            items = with_another(script)
            pairs = list(itertools.permutations(items, 2))
            for times, after in plays(script, items, 4):
                for _ in range(5):
                    known = tuple(dice.some(pairs, dice.roll(5)))
                    self.check_known(script, items, known, times, after)

    def check_known(self, script, items, known, times, after):
        lines = [present for line, present in after.items() if all(is_ahead(line, *pair) for pair in known)]
        for item, other in itertools.permutations(items, 2):
            if lines:
                self.assertEqual(relation_with(script, item, other, known, times=times),
                                 slow_relation(lines, item, other))
            else:
                self.check(NoPairs, relation_with, script, item, other, known, times=times)

    def test_nothing_known(self):
        for script in sample_scripts():
            for item, other in itertools.permutations(slow_items(script)[:6], 2):
                for times in [0, 1, MOST]:
                    self.assertEqual(relation_with(script, item, other, (), times=times),
                                     relation(script, item, other, times=times))

    def test_what_is_decided_stays(self):
        for known in KNOWN:
            self.assertEqual(relation_with(SCRIPT, 0, 2, known), "ahead")
            self.assertEqual(relation_with(SCRIPT, 2, 0, known), "behind")

    def test_pairs_in_any_order_and_twice(self):
        known = ((1, 5), (5, 9), (9, 30), (30, 2))
        for order in itertools.permutations(known):
            for doubled in [order, order + order, order + known[:2]]:
                self.assertEqual(relation_with(SCRIPT, 0, 1, doubled), "ahead")
                self.assertEqual(relation_with(SCRIPT, 1, 0, doubled), "behind")
        for left_out in range(4):
            short = known[:left_out] + known[left_out + 1:]
            self.assertEqual(relation_with(SCRIPT, 0, 1, short), "open")

    def test_long_way(self):
        dice = Dice(64)
        for _ in range(20):
            line = dice.shuffled(FULL_LINE)
            known = tuple(dice.shuffled(list(zip(line, line[1:]))))
            # All is known of the line, so that nothing is open.
            for script in [SCRIPT, dice.script(FULL_LINE, 60)]:
                for times in [0, 1, 2, MOST]:
                    after = after_times(tuple(line), script, times=times)
                    for item, other in [dice.some(FULL_LINE, 2) for _ in range(6)]:
                        self.assertEqual(relation_with(script, item, other, known, times=times),
                                         "ahead" if is_ahead(after, item, other) else "behind")

    def test_three_hundred_pairs(self):
        dice = Dice(65)
        line = dice.shuffled(FULL_LINE)
        pairs = list(itertools.combinations(line, 2))
        known = tuple(dice.some([pair for pair in pairs if line[30] not in pair], 300))
        for item, other in itertools.combinations(line, 2):
            found = relation_with(SCRIPT, item, other, known, times=0)
            self.assertIn(found, ["open"] if line[30] in (item, other) else ["ahead", "open"])
        for item, other in known[::10]:
            self.assertEqual(relation_with(SCRIPT, item, other, known, times=0), "ahead")
            self.assertEqual(relation_with(SCRIPT, other, item, known, times=0), "behind")

    def test_of_other_items(self):
        self.assertEqual(relation_with(SCRIPT, 0, 1, ((40, 41), (42, 40))), "open")
        self.assertEqual(relation_with(SCRIPT, 42, 41, ((40, 41), (42, 40))), "ahead")
        self.assertEqual(relation_with(SCRIPT, 9, 0, ((9, 1),)), "ahead")
        self.assertEqual(relation_with(SCRIPT, 9, 0, ((9, 0),)), "open")

    def test_without_times(self):
        self.assertEqual([relation_with(SCRIPT, 0, 1, known) for known in KNOWN],
                         [relation_with(SCRIPT, 0, 1, known, times=1) for known in KNOWN])

    def test_contradictions(self):
        for known in [((1, 2), (2, 1)), ((1, 2), (2, 0), (0, 1)), ((5, 6), (1, 2), (6, 7), (7, 5)),
                      ((1, 2), (3, 4), (4, 3)), ((8, 9), (9, 10), (10, 11), (11, 9))]:
            for order in itertools.permutations(known):
                self.check(NoPairs, relation_with, SCRIPT, 0, 1, order)
                # Also where the relation does not depend on what is known.
                self.check(NoPairs, relation_with, SCRIPT, 0, 2, order)

    def test_long_contradictions(self):
        dice = Dice(66)
        for size in [2, 3, 10, 30, 60]:
            items = dice.some(FULL_LINE, size)
            known = tuple(dice.shuffled(list(zip(items, items[1:] + items[:1]))))
            self.check(NoPairs, relation_with, SCRIPT, 0, 1, known)
            for at in range(size):
                self.assertIn(relation_with(SCRIPT, 0, 1, known[:at] + known[at + 1:]), ["ahead", "behind", "open"])

    def test_ways_that_meet(self):
        # Two ways from 1 to 2 are no contradiction.
        known = ((1, 5), (1, 6), (5, 7), (6, 7), (7, 2), (1, 2))
        self.assertEqual(relation_with(SCRIPT, 0, 1, known), "ahead")


class RelationErrors(ErrorCase):
    faults = [
        (NoScript, "script", BAD_SCRIPTS),
        (NoItem, "item", [*BAD_ITEMS, 1]),
        (NoItem, "other", [*BAD_ITEMS, 0]),
    ]

    bad_known = [
        *[value for value in STRANGE if value != ()], [], [(1, 2)], [[1, 2]], ([1, 2],), (1, 2), ((1, 2), [2, 3]),
        ((1,),), ((1, 2, 3),), ((),), ((1, 2), ()), ((True, 2),), ((0, True),), ((False, 2),), ((1, 1),),
        ((1, 2), (5, 5)), ((1, 60),), ((-1, 1),), (("1", "2"),), ((1, None),), ("12",), ({1: 2},), ((1, (2,)),),
        {(1, 2): None}, ((1, 2), (2, 1)), ((1, 2), (2, 3), (3, 1)), ((1, 2), 3), (None,), ((1, 2), None),
    ]

    def test_relation(self):
        for function in [relation, deciding]:
            self.check_faults(function, {"script": SCRIPT, "item": 0, "other": 1, "times": 1},
                              [*self.faults, (NoTimes, "times", BAD_TIMES)])

    def test_relation_with(self):
        self.check_faults(relation_with, {"script": SCRIPT, "item": 0, "other": 1, "known": ((1, 2),), "times": 1},
                          [*self.faults, (NoPairs, "known", self.bad_known), (NoTimes, "times", BAD_TIMES)])

    def test_same_item(self):
        for item in range(60):
            for function in [relation, deciding]:
                self.check(NoItem, function, SCRIPT, item, item)
                self.check(NoItem, function, SCRIPT, item, item, times=-1)
            self.check(NoItem, relation_with, SCRIPT, item, item, ())
            self.check(NoItem, relation_with, SCRIPT, item, item, None, times=-1)

    def test_each_spoiled_pair(self):
        known = ((1, 2), (2, 3), (3, 4))
        for at in range(3):
            for wrong in [(1, 1), (1, 60), (1, True), [1, 2], (1,), (1, 2, 3), None, (4, 1)]:
                self.check(NoPairs, relation_with, SCRIPT, 0, 1, known[:at] + (wrong,) + known[at:])

    def test_edges_of_times(self):
        for function, more in [(relation, ()), (deciding, ()), (relation_with, ((),))]:
            for times in [0, 1, MOST]:
                function(SCRIPT, 0, 1, *more, times=times)
            for times in [-1, MOST + 1, 10 ** 99, True]:
                self.check(NoTimes, function, SCRIPT, 0, 1, *more, times=times)

    def test_calls_go_on_after_an_error(self):
        self.check(NoPairs, relation_with, SCRIPT, 0, 1, ((1, 2), (2, 1)))
        self.assertEqual(relation_with(SCRIPT, 0, 1, ((1, 2),)), "ahead")


if __name__ == "__main__":
    unittest.main()
