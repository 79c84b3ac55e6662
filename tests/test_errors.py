import unittest

from shardask import errors

NAMES = (
    "NoQuestion", "NoTable", "NoColumn", "NoKind", "Twice", "TooWide", "BadTown", "NoPlan", "NoHouse", "Unsound",
    "NotReady", "NotEnded", "NoRow", "NoSpan", "Busy", "NoMove", "NotYet", "NoWords",
)


class ErrorsTest(unittest.TestCase):
    def test_each_stands_straight_under_shard_error(self):
        self.assertEqual(errors.ShardError.__bases__, (ValueError,))
        for name in NAMES:
            with self.subTest(name):
                self.assertEqual(getattr(errors, name).__bases__, (errors.ShardError,))

    def test_they_are_unlike(self):
        self.assertEqual(len({getattr(errors, name) for name in NAMES}), 18)

    def test_each_has_its_act(self):
        for name in ("ShardError",) + NAMES:
            for act in (None, 0, 7, 59):
                with self.subTest(name, act=act):
                    self.assertEqual(getattr(errors, name)(act).act, act)

    def test_they_are_raised_and_taken(self):
        for name in NAMES:
            with self.subTest(name):
                with self.assertRaises(errors.ShardError) as taken:
                    raise getattr(errors, name)(3)
                self.assertIsInstance(taken.exception, ValueError)
                self.assertEqual(taken.exception.act, 3)


if __name__ == "__main__":
    unittest.main()
