import inspect
import unittest
from copy import deepcopy
from itertools import combinations

from shelfruns.errors import NoBook, NoOrder
from shelfruns.wishes import kept, stands
from tests.plain import (
    EIGHT, NO_ORDERS_OF_EIGHT, NO_ORDERS_OF_THREE, every_order, kept_wishes, some_wishes, stands_plainly,
    wishes_with_wrong_book,
)


class Stands(unittest.TestCase):
    def test_arguments(self):
        self.assertEqual(list(inspect.signature(stands).parameters), ["many", "order", "wish"])
        self.assertIs(stands(many=3, order=[0, 1, 2], wish=[0, 2]), False)

    def test_without_books_of_one_book_of_all_books(self):
        self.assertIs(stands(8, EIGHT, []), True)
        for book in range(8):
            self.assertIs(stands(8, EIGHT, [book]), True)
            self.assertIs(stands(8, EIGHT, [book, book]), True)
        self.assertIs(stands(8, EIGHT, list(range(8))), True)
        self.assertIs(stands(8, EIGHT, list(range(8)) * 2), True)

    def test_one_book_alone(self):
        self.assertIs(stands(1, [0], []), True)
        self.assertIs(stands(1, [0], [0]), True)
        self.assertIs(stands(1, [0], [0, 0, 0]), True)

    def test_told_in_any_order(self):
        self.assertIs(stands(8, EIGHT, [0, 1, 4]), True)
        self.assertIs(stands(8, EIGHT, [4, 0, 1]), True)
        self.assertIs(stands(8, EIGHT, [3, 6]), False)
        self.assertIs(stands(8, EIGHT, [6, 3]), False)

    def test_a_book_more_than_once(self):
        self.assertIs(stands(4, [0, 1, 2, 3], [1, 0, 1, 0, 0]), True)
        self.assertIs(stands(4, [0, 1, 2, 3], [0, 2, 2]), False)
        self.assertIs(stands(4, [0, 1, 2, 3], [0, 0, 3, 3]), False)
        self.assertIs(stands(4, [0, 1, 2, 3], [0, 3] * 200), False)

    def test_as_a_plain_search(self):
        for many in range(1, 6):
            wishes = [list(wish) for size in range(many + 1) for wish in combinations(range(many), size)]
            for order in every_order(many):
                for wish in wishes:
                    self.assertIs(stands(many, order, wish), stands_plainly(order, wish), (order, wish))

    def test_no_order(self):
        for order in NO_ORDERS_OF_THREE:
            for wish in ([], [0], [0, 1, 2], [2, 0]):
                with self.assertRaises(NoOrder, msg=(order, wish)):
                    stands(3, order, wish)
        for order in ([], [1], [0, 0], [0, 1], [-1]):
            with self.assertRaises(NoOrder, msg=order):
                stands(1, order, [0])
        for order in NO_ORDERS_OF_EIGHT:
            with self.assertRaises(NoOrder, msg=order):
                stands(8, order, [])

    def test_no_book_ahead_of_no_order(self):
        for wishes in wishes_with_wrong_book(3):
            wish = sum(wishes, [])
            for order in ([2, 0, 1],) + NO_ORDERS_OF_THREE:
                with self.assertRaises(NoBook, msg=(order, wish)):
                    stands(3, order, wish)

    def test_somewhat_beyond_the_bounds(self):
        self.assertIs(stands(10, list(range(10)), [9, 8]), True)
        self.assertIs(stands(10, list(range(10)), [9, 7]), False)

    def test_what_is_handed_in_stays(self):
        order, wish = [2, 0, 1, 3], [3, 1, 3]
        for _ in range(2):
            self.assertIs(stands(4, order, wish), True)
            self.assertEqual((order, wish), ([2, 0, 1, 3], [3, 1, 3]))
        wish.append(2)
        self.assertIs(stands(4, order, wish), False)
        order[:] = [0, 2, 1, 3]
        self.assertIs(stands(4, order, wish), True)


class Kept(unittest.TestCase):
    def test_arguments(self):
        self.assertEqual(list(inspect.signature(kept).parameters), ["many", "order", "wishes"])
        self.assertEqual(kept(many=3, order=[0, 1, 2], wishes=[[0, 2], [1]]), [1])

    def test_no_wishes(self):
        self.assertEqual(kept(1, [0], []), [])
        self.assertEqual(kept(8, EIGHT, []), [])

    def test_numbers_rise(self):
        wishes = [[0, 1, 4], [3, 4], [], [6, 2], [7, 0], [5], [5, 5, 0], [3, 6], list(range(8)), [2, 7, 6],
                  [6, 7], [1, 3, 1]]
        self.assertEqual(kept(8, EIGHT, wishes), [0, 2, 3, 5, 6, 8, 9, 11])

    def test_one_book(self):
        self.assertEqual(kept(1, [0], [[0], [], [0, 0]] * 4), list(range(12)))

    def test_none_stands(self):
        self.assertEqual(kept(3, [0, 1, 2], [[0, 2], [2, 0], [0, 0, 2]]), [])

    def test_as_a_plain_search(self):
        for many in range(1, 6):
            for count in (0, 1, 5, 12):
                wishes = some_wishes(many * 100 + count, many, count)
                for order in every_order(many):
                    expected = [at for at, wish in enumerate(wishes) if stands_plainly(order, wish)]
                    self.assertEqual(kept(many, order, wishes), expected, (order, wishes))

    def test_all_of_twelve(self):
        for seed in range(20):
            order, wishes = kept_wishes(seed, 8, 12)
            self.assertEqual(kept(8, order, wishes), list(range(12)))

    def test_no_order(self):
        for order in NO_ORDERS_OF_THREE:
            for wishes in ([], [[]], [[0, 1], [2, 0]]):
                with self.assertRaises(NoOrder, msg=(order, wishes)):
                    kept(3, order, wishes)

    def test_no_book_ahead_of_no_order(self):
        for many, good in ((1, [0]), (3, [2, 0, 1]), (8, EIGHT)):
            for wishes in wishes_with_wrong_book(many):
                for order in (good, [], good + [0], [many] + good[1:], [-1]):
                    with self.assertRaises(NoBook, msg=(order, wishes)):
                        kept(many, order, wishes)

    def test_no_book_in_the_last_of_twelve(self):
        with self.assertRaises(NoBook):
            kept(8, EIGHT, [[0]] * 11 + [[0, 8]])

    def test_somewhat_beyond_the_bounds(self):
        self.assertEqual(kept(9, list(range(9)), [[0, 8], [7, 8]] * 8), list(range(1, 16, 2)))

    def test_what_is_handed_in_stays_and_what_is_told_is_the_askers(self):
        order, wishes = [2, 0, 1], [[1, 0, 1], [2, 1], []]
        before = deepcopy((order, wishes))
        told = kept(3, order, wishes)
        self.assertEqual((order, wishes), before)
        told.append(7)
        told[0] = 5
        self.assertEqual(kept(3, order, wishes), [0, 2])
        self.assertEqual((order, wishes), before)
        wishes[1].append(0)
        self.assertEqual(kept(3, order, wishes), [0, 1, 2])


if __name__ == "__main__":
    unittest.main()
