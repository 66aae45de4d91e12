import unittest

from shelfruns import errors
from shelfruns.errors import BadLine, FullShelf, NoBook, NoOrder, NoTurn, NoWish, ShelfError

SIX = (NoBook, NoTurn, NoOrder, NoWish, FullShelf, BadLine)


class Errors(unittest.TestCase):
    def test_shelf_error_is_straight_under_value_error(self):
        self.assertEqual(ShelfError.__bases__, (ValueError,))

    def test_each_is_straight_under_shelf_error(self):
        for one in SIX:
            self.assertEqual(one.__bases__, (ShelfError,), one)

    def test_none_is_another_one(self):
        for one in SIX:
            for other in SIX:
                self.assertEqual(issubclass(one, other), one is other, (one, other))

    def test_each_bears_its_own_name(self):
        for name in ("ShelfError", "NoBook", "NoTurn", "NoOrder", "NoWish", "FullShelf", "BadLine"):
            self.assertEqual(getattr(errors, name).__name__, name)

    def test_each_can_be_raised_and_taken_as_any_refusal(self):
        for one in SIX:
            with self.assertRaises(ShelfError):
                raise one("words")


if __name__ == "__main__":
    unittest.main()
