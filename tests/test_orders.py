import inspect
import unittest
from copy import deepcopy
from itertools import combinations_with_replacement

from shelfruns.errors import NoBook, NoOrder
from shelfruns.orders import clash, first, following, judged
from shelfruns.turns import odd_ring
from tests.plain import (
    BIG, CIRCLE, EIGHT, NO_ORDERS_OF_EIGHT, NO_ORDERS_OF_THREE, STAR, clash_plainly, every_order, families,
    is_odd_ring, keeps_plainly, kept_orders, kept_wishes, some_order_keeps, some_wishes, wishes_with_wrong_book,
)

# Wishes that any order keeps: of no book, of one, of all, also told backwards or more than once.
IDLE = [[], [0], [3, 3], [0, 1, 2, 3], [3, 2, 1, 0], [1, 0, 1, 2, 3, 3]]


def wishes_to_try():
    """Pairs of how many books there are and wishes, some kept and some not, of few books and of more."""
    for many, most in ((1, 0), (2, 0), (3, 3), (4, 3)):
        for wishes in families(many, most):
            yield many, wishes
    for wishes in families(5, 2) + families(5, 3)[::9]:
        yield 5, wishes
    for seed in range(150):
        many = 1 + seed % 6
        yield many, some_wishes(seed, many, seed % 13)
    for seed in range(60):
        many = 1 + seed % 6
        yield many, kept_wishes(seed, many, seed % 13)[1]


class RefusesBooks:
    """What all calls that take `many` and `wishes` refuse alike; `asked` is one of them."""

    def test_arguments(self):
        self.assertEqual(list(inspect.signature(self.asked).parameters), ["many", "wishes"])
        self.asked(many=2, wishes=[])

    def test_no_book(self):
        for many in (1, 3, 8):
            for wishes in wishes_with_wrong_book(many):
                with self.assertRaises(NoBook, msg=wishes):
                    self.asked(many, wishes)

    def test_no_book_in_the_last_wish(self):
        for wishes in ([[0]] * 11, STAR, STAR + CIRCLE, IDLE):
            for bad in ([4], [0, 4], [-1, 0], [1, 2, BIG], [-BIG]):
                with self.assertRaises(NoBook, msg=(wishes, bad)):
                    self.asked(4, wishes + [bad])

    def test_what_is_handed_in_stays(self):
        for wishes in (STAR + IDLE, IDLE + [[1, 0, 1]], CIRCLE):
            handed = deepcopy(wishes)
            told = self.asked(4, handed)
            self.assertEqual(handed, wishes)
            handed.clear()
            self.assertEqual(self.asked(4, wishes), told)


class First(RefusesBooks, unittest.TestCase):
    asked = staticmethod(first)

    def test_no_wishes(self):
        for many in range(1, 9):
            self.assertEqual(first(many, []), list(range(many)))

    def test_wishes_that_any_order_keeps(self):
        self.assertEqual(first(4, IDLE * 2), [0, 1, 2, 3])
        self.assertEqual(first(1, [[], [0], [0, 0]] * 4), [0])

    def test_by_hand(self):
        self.assertEqual(first(3, [[0, 2]]), [0, 2, 1])
        self.assertEqual(first(3, [[2, 0, 2]]), [0, 2, 1])
        self.assertEqual(first(4, [[0, 3], [3, 1]]), [0, 3, 1, 2])
        self.assertEqual(first(4, [[0, 3], [0, 1]]), [1, 0, 3, 2])
        self.assertEqual(first(4, [[0, 1], [1, 2], [2, 3]]), [0, 1, 2, 3])
        # The least books can't be at the beginning: only 2 and 3 end the row of neighbours.
        self.assertEqual(first(4, [[2, 0], [0, 1], [1, 3]]), [2, 0, 1, 3])

    def test_none(self):
        self.assertIsNone(first(3, [[0, 1], [1, 2], [2, 0]]))
        for many in (4, 5, 8):
            self.assertIsNone(first(many, STAR))
            self.assertIsNone(first(many, CIRCLE))
        self.assertIsNone(first(8, [[], [0, 1, 0], list(range(8)), [5, 6], [6, 7], [7, 5]]))

    def test_as_all_orders_gone_through(self):
        for many, wishes in wishes_to_try():
            expected = (kept_orders(many, wishes) + [None])[0]
            self.assertEqual(first(many, wishes), expected, (many, wishes))

    def test_every_family_of_four_books(self):
        for wishes in families(4, 10):
            expected = (kept_orders(4, wishes) + [None])[0]
            self.assertEqual(first(4, wishes), expected, wishes)

    def test_eight_books_and_twelve_wishes(self):
        for seed in range(4):
            order, wishes = kept_wishes(seed, 8, 11)
            self.assertEqual(first(8, wishes + [[]]), kept_orders(8, wishes)[0], wishes)
            more = wishes + [[order[0], order[4], order[0]]]
            self.assertEqual(first(8, more), (kept_orders(8, more) + [None])[0], more)

    def test_the_only_two_orders_of_a_row_of_neighbours(self):
        for seed in range(50):
            order = kept_wishes(seed, 8, 0)[0]
            wishes = [[order[at], order[at + 1]] for at in range(7)]
            self.assertEqual(first(8, wishes), min(order, order[::-1]))

    def test_somewhat_beyond_the_bounds(self):
        around = [[at, (at + 1) % 10] for at in range(10)]
        self.assertIsNone(first(10, around + [[]] * 5))
        self.assertEqual(first(10, around[:9] + [[0, 1, 2]] * 5), list(range(10)))
        self.assertIsNone(first(10, [[7, 8], [8, 9], [9, 7]]))


class Following(unittest.TestCase):
    def test_arguments(self):
        self.assertEqual(list(inspect.signature(following).parameters), ["many", "wishes", "order"])
        self.assertEqual(following(many=2, wishes=[], order=[0, 1]), [1, 0])

    def test_no_wishes(self):
        self.assertEqual(following(3, [], [0, 1, 2]), [0, 2, 1])
        self.assertEqual(following(3, [], [0, 2, 1]), [1, 0, 2])
        self.assertEqual(following(8, [], [0, 7, 6, 5, 4, 3, 2, 1]), [1, 0, 2, 3, 4, 5, 6, 7])
        self.assertEqual(following(8, [], list(range(8))), [0, 1, 2, 3, 4, 5, 7, 6])

    def test_behind_the_last_order_of_all(self):
        for many in range(1, 9):
            last = list(range(many))[::-1]
            for wishes in ([], [[]], [list(range(many))], [last], [[0, many - 1]], [[0, 0]] * 12):
                self.assertIsNone(following(many, wishes, last), wishes)

    def test_behind_an_order_that_does_not_keep_the_wishes(self):
        self.assertEqual(following(3, [[0, 2]], [0, 1, 2]), [0, 2, 1])
        self.assertEqual(following(3, [[0, 2]], [2, 1, 0]), None)
        self.assertEqual(following(4, [[0, 3]], [0, 1, 2, 3]), [0, 3, 1, 2])
        self.assertEqual(following(4, [[2, 0], [0, 1], [1, 3]], [0, 1, 2, 3]), [2, 0, 1, 3])
        self.assertEqual(following(4, [[2, 0], [0, 1], [1, 3]], [2, 0, 3, 1]), [3, 1, 0, 2])

    def test_behind_the_last_one_that_keeps_the_wishes(self):
        self.assertIsNone(following(3, [[0, 2]], [2, 0, 1]))
        self.assertIsNone(following(4, [[2, 0], [0, 1], [1, 3]], [3, 1, 0, 2]))

    def test_where_none_keeps(self):
        for order in every_order(4):
            self.assertIsNone(following(4, STAR, order))
            self.assertIsNone(following(4, CIRCLE, order))
        self.assertIsNone(following(8, STAR, EIGHT))

    def test_as_all_orders_gone_through(self):
        for many, wishes in wishes_to_try():
            if many < 5:
                expected = None
                for order in reversed(every_order(many)):
                    self.assertEqual(following(many, wishes, order), expected, (many, wishes, order))
                    if keeps_plainly(order, wishes):
                        expected = order

    def test_any_order_of_more_books(self):
        for seed in range(40):
            many = 5 + seed % 2
            count = 1 + seed % 6
            wishes = kept_wishes(seed, many, count)[1] if seed % 4 else some_wishes(seed, many, count)
            kept = kept_orders(many, wishes)
            for order in every_order(many)[seed % 7::11]:
                expected = min((other for other in kept if other > order), default=None)
                self.assertEqual(following(many, wishes, order), expected, (wishes, order))

    def test_from_the_first_to_the_last(self):
        for many, wishes in wishes_to_try():
            self.go_through(many, wishes)

    def test_from_the_first_to_the_last_of_eight_books(self):
        for seed in range(4):
            self.go_through(8, kept_wishes(seed, 8, 3 + 3 * seed)[1])
        self.go_through(7, [[0, 6], [6, 3, 1]])

    def go_through(self, many, wishes):
        found, order = [], first(many, wishes)
        while order is not None:
            found.append(order)
            order = following(many, wishes, order)
        self.assertEqual(found, kept_orders(many, wishes), (many, wishes))

    def test_no_order(self):
        for order in NO_ORDERS_OF_THREE:
            for wishes in ([], [[]], [[0, 2]], [[0, 1], [1, 2], [2, 0]]):
                with self.assertRaises(NoOrder, msg=(order, wishes)):
                    following(3, wishes, order)
        for order in ([], [1], [0, 0], [0, 1], [-1]):
            with self.assertRaises(NoOrder, msg=order):
                following(1, [[0]], order)
        for order in NO_ORDERS_OF_EIGHT:
            with self.assertRaises(NoOrder, msg=order):
                following(8, STAR, order)

    def test_no_book_ahead_of_no_order(self):
        for many, good in ((1, [0]), (3, [2, 0, 1]), (8, EIGHT)):
            for wishes in wishes_with_wrong_book(many):
                for order in (good, [], good + [0], [many] + good[1:], [-1], [BIG]):
                    with self.assertRaises(NoBook, msg=(order, wishes)):
                        following(many, wishes, order)

    def test_somewhat_beyond_the_bounds(self):
        around = [[at, at + 1] for at in range(9)] + [[]] * 5
        self.assertEqual(following(10, around, list(range(10))), list(range(10))[::-1])
        self.assertIsNone(following(10, around, list(range(10))[::-1]))

    def test_what_is_handed_in_stays(self):
        wishes, order = [[2, 0, 2], []], [0, 2, 1]
        told = following(3, wishes, order)
        self.assertEqual((wishes, order, told), ([[2, 0, 2], []], [0, 2, 1], [1, 0, 2]))
        told.clear()
        self.assertEqual(following(3, wishes, order), [1, 0, 2])
        wishes[1].extend([1, 2])
        self.assertEqual(following(3, wishes, order), [1, 2, 0])
        order[:] = [1, 2, 0]
        self.assertEqual(following(3, wishes, order), None)


class Judged(RefusesBooks, unittest.TestCase):
    asked = staticmethod(judged)

    def hold(self, many, wishes, expected):
        told = judged(many, wishes)
        self.assertEqual((type(told), len(told)), (tuple, 2))
        if expected is None:
            self.assertEqual(told[0], "ring", (many, wishes))
            self.assertTrue(is_odd_ring(many, wishes, told[1]), (many, wishes, told))
        else:
            self.assertEqual(told, ("order", expected), (many, wishes))
        # Either the one or the other, and the turns tell alike.
        self.assertEqual(odd_ring(many, wishes) is None, told[0] == "order", (many, wishes))

    def test_by_hand(self):
        self.hold(1, [], [0])
        self.hold(8, [], list(range(8)))
        self.hold(4, IDLE * 2, [0, 1, 2, 3])
        self.hold(4, [[0, 3], [0, 1]], [1, 0, 3, 2])
        self.hold(4, STAR, None)
        self.hold(4, CIRCLE * 3, None)
        self.hold(8, STAR + [[7, 6, 5]] * 9, None)

    def test_as_all_orders_gone_through(self):
        for many, wishes in wishes_to_try():
            self.hold(many, wishes, (kept_orders(many, wishes) + [None])[0])

    def test_every_family_of_four_books(self):
        for wishes in families(4, 10):
            self.hold(4, wishes, (kept_orders(4, wishes) + [None])[0])

    def test_eight_books(self):
        for seed in range(60):
            order, wishes = kept_wishes(seed, 8, 11)
            self.hold(8, wishes, first(8, wishes))
            more = wishes + [[order[1], order[6]]]
            self.hold(8, more, first(8, more))
            more = some_wishes(seed, 8, 1 + seed % 12)
            self.hold(8, more, first(8, more))

    def test_somewhat_beyond_the_bounds(self):
        around = [[at, (at + 1) % 9] for at in range(9)]
        self.hold(9, around + [[]] * 5, None)
        self.hold(9, around[:8] + [[]] * 5, list(range(9)))


class Clash(RefusesBooks, unittest.TestCase):
    asked = staticmethod(clash)

    def hold(self, many, wishes):
        told = clash(many, wishes)
        self.assertEqual(told, clash_plainly(many, wishes), (many, wishes))
        if told is not None:
            self.assertIs(type(told), list)
            self.hold_least(many, wishes, told)

    def hold_least(self, many, wishes, told):
        self.assertEqual(told, sorted(set(told)))
        self.assertIsNone(first(many, [wishes[number] for number in told]))
        for number in told:
            others = [wishes[other] for other in told if other != number]
            self.assertIsNotNone(first(many, others), (many, wishes, told))

    def test_where_some_order_keeps_all(self):
        for many in range(1, 9):
            self.assertIsNone(clash(many, []))
            self.assertIsNone(clash(many, [[], [0], list(range(many)), [many - 1, 0]] * 3))
        self.assertIsNone(clash(4, STAR[:2] + IDLE))

    def test_by_hand(self):
        self.assertEqual(clash(4, STAR), [0, 1, 2])
        self.assertEqual(clash(4, CIRCLE), [0, 1, 2, 3])
        # The earlier ones of like wishes are left out, as the later ones are still there.
        self.assertEqual(clash(4, STAR * 4), [9, 10, 11])
        self.assertEqual(clash(4, STAR + STAR[:1]), [1, 2, 3])
        self.assertEqual(clash(4, IDLE + STAR), [6, 7, 8])
        self.assertEqual(clash(4, STAR + IDLE), [0, 1, 2])
        self.assertEqual(clash(4, STAR[:1] + IDLE + STAR[1:]), [0, 7, 8])

    def test_the_last_clash_is_told_be_it_longer_or_shorter(self):
        self.assertEqual(clash(4, STAR + CIRCLE), [3, 4, 5, 6])
        self.assertEqual(clash(4, CIRCLE + STAR), [4, 5, 6])

    def test_as_the_words_say_of_few_books(self):
        for wishes in families(4, 10):
            self.hold(4, wishes)
            self.hold(4, wishes[::-1])
        for wishes in combinations_with_replacement([[0, 1], [2, 1, 1], [0, 2], [1]], 4):
            self.hold(3, list(wishes))

    def test_as_the_words_say_of_more_books(self):
        for seed in range(120):
            many = 4 + seed % 3
            self.hold(many, some_wishes(seed, many, 1 + seed % 12))

    def test_eight_books_and_twelve_wishes(self):
        told = []
        for seed in range(60):
            wishes = some_wishes(seed, 8, 12)
            if not odd_ring(8, wishes):
                self.assertIsNone(clash(8, wishes))
            else:
                told.append(clash(8, wishes))
                self.hold_least(8, wishes, told[-1])
        self.assertGreater(len(told), 30)
        around = [[at, (at + 1) % 8] for at in range(8)]
        self.assertEqual(clash(8, [[]] + around + [[0], [4, 4], [0, 1]]), [2, 3, 4, 5, 6, 7, 8, 11])
        # The wish of 0, 1 and 2 closes the ring in the place of [0, 1] and of [1, 2].
        self.assertEqual(clash(8, [[]] + around + [[0], [2, 1, 0], [0, 1]]), [3, 4, 5, 6, 7, 8, 10])

    def test_one_of_eight_books_as_the_words_say(self):
        order, wishes = kept_wishes(5, 8, 4)
        self.assertTrue(some_order_keeps(8, wishes))
        self.hold(8, [[order[0], order[1]], [order[0], order[2]], [order[0], order[3]]] + wishes)

    def test_somewhat_beyond_the_bounds(self):
        around = [[at, (at + 1) % 10] for at in range(10)]
        self.assertEqual(clash(10, [[0, 1]] * 4 + around), list(range(4, 14)))


if __name__ == "__main__":
    unittest.main()
