"""[15]: the classes of moveafter.errors."""

import unittest

from moveafter import errors

NAMES = [
    "NoLine", "NoCommand", "NoScript", "NoItem", "Missing", "Same", "NoTimes", "NoEffect", "NotAlike", "NoPairs",
    "NoNumber", "Impossible", "NoSize", "NoFriends", "Nothing", "NoOperation", "NoText", "NoRow",
]


class Errors(unittest.TestCase):
    def test_base(self):
        self.assertEqual(errors.MoveError.__bases__, (ValueError,))

    def test_direct_subclasses(self):
        for name in NAMES:
            with self.subTest(name):
                found = getattr(errors, name)
                self.assertEqual(found.__bases__, (errors.MoveError,))
                self.assertEqual((found.__name__, found.__module__), (name, "moveafter.errors"))

    def test_no_others(self):
        found = [name for name, value in vars(errors).items() if isinstance(value, type)]
        self.assertEqual(sorted(found), sorted(["MoveError", *NAMES]))

    def test_messages(self):
        for name in ["MoveError", *NAMES]:
            with self.subTest(name):
                self.assertEqual(str(getattr(errors, name)("a message")), "a message")


if __name__ == "__main__":
    unittest.main()
