import unittest

from ranksure import errors

NAMES = ("NoErrands", "NoRanks", "NoComings", "NoErrand", "NoNumber", "TooLong", "NoText")


class ErrorsTest(unittest.TestCase):
    def test_rank_error_is_a_value_error(self):
        self.assertEqual(errors.RankError.__bases__, (ValueError,))

    def test_each_stands_straight_under_rank_error(self):
        for name in NAMES:
            self.assertEqual(getattr(errors, name).__bases__, (errors.RankError,), name)

    def test_each_is_taken_by_rank_error_and_by_value_error(self):
        for name in NAMES:
            for wider in (errors.RankError, ValueError):
                with self.assertRaises(wider):
                    raise getattr(errors, name)("words")

    def test_none_is_another_one(self):
        for name in NAMES:
            for other in NAMES:
                if name != other:
                    self.assertFalse(issubclass(getattr(errors, name), getattr(errors, other)), (name, other))


if __name__ == "__main__":
    unittest.main()
