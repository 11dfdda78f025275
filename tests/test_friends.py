"""[2], [3], [4], [6], [12], [13], section 10: day_script, after_days, count_final, days_needed and day_period."""

import copy
import itertools
import math
import unittest

from moveafter.errors import Missing, NoFriends, NoLine, NoTimes
from moveafter.friends import after_days, count_final, day_period, day_script, days_needed, is_friends
from moveafter.lines import is_script
from moveafter.repeats import after_times, final_blocks, period, settled_after
from tests.samples import (BAD_FRIENDS, BAD_LINES, BAD_TIMES, FULL_LINE, Dice, ErrorCase, lines_of, sample_friends,
                           slow_after, slow_day)

MOST = 10 ** 30

FRIENDS = {0: 1, 1: 2, 2: None}


def all_friends(size):
    """Return all friends of the items below the size."""
    choices = [[None, *[other for other in range(size) if other != item]] for item in range(size)]
    return [dict(enumerate(found)) for found in itertools.product(*choices)]


def counted_final(friends):
    """Count the final blocks as [13] says: loners, and items of rings whose friends are greater."""
    many = list(friends.values()).count(None)
    for item in friends:
        way = [item]
        while friends[way[-1]] is not None and friends[way[-1]] not in way:
            way.append(friends[way[-1]])
        if friends[way[-1]] == item and friends[item] > item:
            many += 1
    return many


def slow_final(friends, line):
    """Play days one by one; return how many it takes until lines come again, and after how many days they do."""
    seen = {}
    days = 0
    while line not in seen:
        seen[line] = days
        line = slow_day(line, friends)
        days += 1
    return seen[line], days - seen[line]


class DayScript(unittest.TestCase):
    def test_commands_in_order(self):
        for friends in sample_friends():
            expected = tuple(("behind", item, friends[item]) for item in range(60) if friends.get(item) is not None)
            found = day_script(friends)
            self.assertEqual(found, expected)
            self.assertIs(type(found), tuple)
            self.assertIs(is_script(found), expected != ())

    def test_order_of_the_dict(self):
        dice = Dice(71)
        for friends in sample_friends():
            other = {item: friends[item] for item in dice.shuffled(friends)}
            self.assertEqual(day_script(other), day_script(friends))
        self.assertEqual(day_script({9: 3, 3: 4, 4: 9}), (("behind", 3, 4), ("behind", 4, 9), ("behind", 9, 3)))

    def test_nobody_has_a_friend(self):
        for many in [1, 2, 59, 60]:
            self.assertEqual(day_script({item: None for item in range(many)}), ())

    def test_friend_of_number_0(self):
        self.assertEqual(day_script({0: None, 5: 0}), (("behind", 5, 0),))

    def test_sixty_commands(self):
        friends = {item: (item + 7) % 60 for item in FULL_LINE}
        self.assertEqual(day_script(friends), tuple(("behind", item, (item + 7) % 60) for item in FULL_LINE))


class AfterDays(unittest.TestCase):
    def test_one_by_one(self):
        dice = Dice(72)
        for friends in sample_friends():
            others = [item for item in FULL_LINE if item not in friends]
            for many in [0, len(others)]:
                line = expected = tuple(dice.shuffled([*friends, *others[:many]]))
                for days in range(8):
                    found = after_days(line, friends, days=days)
                    self.assertEqual(found, expected)
                    self.assertIs(type(found), tuple)
                    expected = slow_day(expected, friends)

    def test_without_days(self):
        dice = Dice(73)
        for friends in sample_friends():
            line = tuple(dice.shuffled(FULL_LINE))
            self.assertEqual(after_days(line, friends), slow_day(line, friends))

    def test_like_the_script(self):
        dice = Dice(74)
        for friends in sample_friends():
            line = tuple(dice.shuffled(FULL_LINE))
            script = day_script(friends)
            self.assertEqual(after_days(line, friends), slow_after(line, script))
            for days in [0, 1, 2, 59, 10 ** 9, MOST - 1, MOST]:
                expected = after_times(line, script, times=days) if script else line
                self.assertEqual(after_days(line, friends, days=days), expected)

    def test_many_days(self):
        for friends in all_friends(3):
            for line in lines_of(range(3)):
                needed, turn = slow_final(friends, line)
                expected = line
                for _ in range(needed + (MOST - needed) % turn):
                    expected = slow_day(expected, friends)
                self.assertEqual(after_days(line, friends, days=MOST), expected)

    def test_nobody_has_a_friend(self):
        for days in [0, 1, MOST]:
            self.assertEqual(after_days((4, 2, 3), {4: None}, days=days), (4, 2, 3))
            self.assertEqual(after_days((5,), {5: None}, days=days), (5,))

    def test_two_friends(self):
        # 0 goes behind 1, then 1 behind 0.
        for days in [1, 2, 3, MOST]:
            self.assertEqual(after_days((1, 5, 0), {0: 1, 1: 0}, days=days), (0, 1, 5))


class Counts(unittest.TestCase):
    def test_all_small_friends(self):
        for size in [1, 2, 3, 4]:
            lines = lines_of(range(size))
            for friends in all_friends(size):
                self.check_counts(friends, lines)

    def check_counts(self, friends, lines):
        """Check the counts by what becomes of all lines."""
        found = [slow_final(friends, line) for line in lines]
        self.assertEqual(days_needed(friends), max(needed for needed, _ in found))
        self.assertEqual(day_period(friends), math.lcm(*[turn for _, turn in found]))
        ends = {after_days(line, friends, days=MOST) for line in lines}
        self.assertEqual(len(ends), math.factorial(count_final(friends)), friends)

    def test_like_the_script(self):
        for friends in [*sample_friends(), *all_friends(4)]:
            script = day_script(friends)
            if script:
                named = {item for command in script for item in command[1:]}
                unnamed = len(friends) - len(named)
                self.assertEqual(count_final(friends), len(final_blocks(script)) + unnamed)
                self.assertEqual(days_needed(friends), settled_after(script))
                self.assertEqual(day_period(friends), period(script))

    def test_number_of_final_blocks(self):
        for friends in [*sample_friends(), *all_friends(5)]:
            self.assertEqual(count_final(friends), counted_final(friends), friends)

    def test_nobody_has_a_friend(self):
        for many in [1, 2, 7, 60]:
            friends = {item: None for item in range(many)}
            self.assertEqual([count_final(friends), days_needed(friends), day_period(friends)], [many, 0, 1])

    def test_loners_that_are_nobodys_friend(self):
        friends = {0: 1, 1: None, 2: None, 59: None}
        self.assertEqual([count_final(friends), days_needed(friends), day_period(friends)], [3, 1, 1])

    def test_chains(self):
        for size in range(2, 61):
            # An item leaves behind what followed it, so that one more item a day stays with the last one.
            friends = {item: item + 1 if item + 1 < size else None for item in range(size)}
            self.assertEqual([count_final(friends), days_needed(friends), day_period(friends)], [1, size - 1, 1])
            # The other way round the items move in the order in which they stay together.
            friends = {item: item - 1 if item else None for item in range(size)}
            self.assertEqual([count_final(friends), days_needed(friends), day_period(friends)], [1, 1, 1])

    def test_rings(self):
        for size in range(2, 61):
            upwards = {item: (item + 1) % size for item in range(size)}
            self.assertEqual(count_final(upwards), size - 1)
            self.assertEqual(day_period(upwards), size - 1)
            downwards = {item: (item - 1) % size for item in range(size)}
            self.assertEqual([count_final(downwards), day_period(downwards)], [1, 1])

    def test_order_of_the_dict(self):
        dice = Dice(75)
        for friends in sample_friends():
            other = {item: friends[item] for item in dice.shuffled(friends)}
            for function in [count_final, days_needed, day_period]:
                self.assertEqual(function(other), function(friends))
                self.assertIs(type(function(other)), int)


class FriendErrors(ErrorCase):
    def test_friends_alone(self):
        for function in [day_script, count_final, days_needed, day_period]:
            self.check_faults(function, {"friends": FRIENDS}, [(NoFriends, "friends", BAD_FRIENDS)])

    def test_after_days(self):
        self.check_faults(after_days, {"line": (0, 1, 2), "friends": FRIENDS, "days": 1}, [
            (NoLine, "line", BAD_LINES),
            (NoFriends, "friends", BAD_FRIENDS),
            (NoTimes, "days", BAD_TIMES),
            (Missing, "line", [(0,), (0, 1), (7,), (0, 2, 3, 59)]),
            (Missing, "friends", [{58: 59, 59: None}, {**FRIENDS, 3: None}, {3: None}, {59: 0, 0: None}]),
        ])

    def test_missing_whatever_the_days(self):
        for days in [0, 1, MOST]:
            for friends in [FRIENDS, {3: None}, {0: None, 5: None}]:
                self.check(Missing, after_days, (0, 1), friends, days=days)

    def test_edges_of_days(self):
        self.assertEqual(after_days((0, 1, 2), FRIENDS, days=0), (0, 1, 2))
        self.assertEqual(after_days((0, 1, 2), FRIENDS, days=MOST), (2, 1, 0))
        for days in [-1, MOST + 1, -MOST, 10 ** 99, True, False, None]:
            self.check(NoTimes, after_days, (0, 1, 2), FRIENDS, days=days)
            self.check(NoTimes, after_days, (0, 1, 2), {1: None}, days=days)

    def test_days_by_keyword(self):
        with self.assertRaises(TypeError):
            after_days((0, 1, 2), FRIENDS, 1)

    def test_arguments_unchanged(self):
        for friends in sample_friends():
            before = copy.deepcopy(list(friends.items()))
            for function in [is_friends, day_script, count_final, days_needed, day_period]:
                function(friends)
            after_days(FULL_LINE, friends, days=3)
            self.assertEqual(list(friends.items()), before)


if __name__ == "__main__":
    unittest.main()
