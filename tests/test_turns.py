import inspect
import unittest
from copy import deepcopy
from itertools import combinations, product

from shelfruns.errors import NoBook, NoTurn
from shelfruns.turns import bar, chain, odd_ring
from tests.plain import (
    BIG, CIRCLE, STAR, bar_plainly, every_order, every_turn, families, is_odd_ring, keeps_plainly, kept_wishes,
    some_order_keeps, some_wishes, turns_needed, wishes_with_wrong_book,
)

WRONG_BOOKS = (-1, 4, 5, -4, BIG, -BIG)


class Refusals:
    """What `bar` and `chain` refuse alike; `asked` is one of the two."""

    def test_arguments(self):
        self.assertEqual(list(inspect.signature(self.asked).parameters), ["many", "wishes", "one", "other"])
        self.asked(many=2, wishes=[], one=(0, 1), other=(1, 0))

    def test_no_book_in_the_wishes(self):
        for many in (2, 4, 8):
            for wishes in wishes_with_wrong_book(many):
                for one, other in (((0, 1), (1, 0)), ((0, 0), (0, 1)), ((1, 1), (1, 1)), ((0, 1), (0, 1))):
                    with self.assertRaises(NoBook, msg=(wishes, one, other)):
                        self.asked(many, wishes, one, other)

    def test_no_book_in_either_turn_ahead_of_no_turn(self):
        good = ((0, 1), (2, 2))
        for book in WRONG_BOOKS:
            for bad in ((book, 0), (0, book), (book, book)):
                for turn in good + (bad,):
                    for wishes in ([], STAR):
                        with self.assertRaises(NoBook, msg=(bad, turn)):
                            self.asked(4, wishes, bad, turn)
                        with self.assertRaises(NoBook, msg=(turn, bad)):
                            self.asked(4, wishes, turn, bad)

    def test_no_turn(self):
        for wishes in ([], STAR, CIRCLE):
            for one, other in (((1, 1), (0, 1)), ((0, 1), (1, 1)), ((0, 0), (0, 0)), ((3, 3), (2, 2))):
                with self.assertRaises(NoTurn, msg=(one, other)):
                    self.asked(4, wishes, one, other)

    def test_one_book(self):
        with self.assertRaises(NoTurn):
            self.asked(1, [[0]], (0, 0), (0, 0))
        with self.assertRaises(NoBook):
            self.asked(1, [], (0, 0), (0, 1))

    def test_what_is_handed_in_stays(self):
        wishes = [[2, 0, 2], [], [3, 1], [0]]
        before = deepcopy(wishes)
        for one, other in product(every_turn(4), repeat=2):
            told = self.asked(4, wishes, one, other)
            self.assertEqual(wishes, before)
            again = deepcopy(told)
            if isinstance(told, list):
                told.reverse()
                told.append((7, 7))
            self.assertEqual(self.asked(4, wishes, one, other), again)

    def test_wishes_changed_later(self):
        wishes = [[0, 2]]
        before = self.asked(3, wishes, (0, 1), (1, 2))
        wishes[0].append(1)
        self.assertFalse(self.asked(3, wishes, (0, 1), (1, 2)))
        wishes[0].remove(1)
        self.assertEqual(self.asked(3, wishes, (0, 1), (1, 2)), before)


class Bar(Refusals, unittest.TestCase):
    asked = staticmethod(bar)

    def test_a_turn_and_its_other_way(self):
        for many in (2, 8):
            for one in every_turn(many):
                self.assertIs(bar(many, [], one, (one[1], one[0])), True)

    def test_by_a_wish(self):
        for wish in ([0, 2], [2, 0], [2, 3, 0, 0]):
            self.assertIs(bar(4, [wish], (0, 1), (1, 2)), True)
            self.assertIs(bar(4, [wish], (1, 2), (0, 1)), True)
            self.assertIs(bar(4, [wish], (2, 1), (1, 0)), True)
            self.assertIs(bar(4, [wish], (1, 0), (2, 1)), True)
            self.assertIs(bar(4, [[], [1], [0, 1, 2], wish], (0, 1), (1, 2)), True)

    def test_not_by_these_wishes(self):
        for wishes in ([], [[]], [[0, 1, 2]], [[0], [2]], [[0, 1], [1, 2]], [[0, 3], [2, 3]], [[0, 1, 2, 3]]):
            self.assertIs(bar(4, wishes, (0, 1), (1, 2)), False)
            self.assertIs(bar(4, wishes, (1, 2), (0, 1)), False)

    def test_turns_that_do_not(self):
        wishes = [list(wish) for size in (2, 3) for wish in combinations(range(4), size)]
        for one, other in (((0, 1), (0, 1)), ((0, 1), (0, 2)), ((0, 1), (2, 1)), ((0, 1), (2, 3))):
            self.assertIs(bar(4, wishes, one, other), False)
            self.assertIs(bar(4, wishes, other, one), False)

    def test_as_the_words_say(self):
        for seed in range(60):
            many = 2 + seed % 7
            wishes = some_wishes(seed, many, seed % 13)
            for one, other in product(every_turn(many)[:20], every_turn(many)):
                expected = bar_plainly(wishes, one, other)
                self.assertIs(bar(many, wishes, one, other), expected, (wishes, one, other))
                self.assertIs(bar(many, wishes, other, one), expected, (wishes, one, other))

    def test_just_one_of_the_two_is_so_in_each_order_that_keeps_the_wishes(self):
        for wishes in families(4, 2):
            barred = [(one, other) for one, other in product(every_turn(4), repeat=2) if bar(4, wishes, one, other)]
            for order in every_order(4):
                if keeps_plainly(order, wishes):
                    for one, other in barred:
                        so = [order.index(a) < order.index(b) for a, b in (one, other)]
                        self.assertEqual(sum(so), 1, (wishes, order, one, other))


class Chain(Refusals, unittest.TestCase):
    asked = staticmethod(chain)

    def hold(self, many, wishes, one, other):
        told = chain(many, wishes, one, other)
        needed = turns_needed(many, wishes, one, other)
        if needed is None:
            self.assertIsNone(told, (wishes, one, other))
            return
        self.assertIs(type(told), list)
        self.assertTrue(all(type(turn) is tuple for turn in told))
        self.assertEqual(len(told), needed, (wishes, one, other, told))
        self.assertEqual((told[0], told[-1]), (one, other))
        for before, behind in zip(told, told[1:]):
            self.assertTrue(bar_plainly(wishes, before, behind), (wishes, told))

    def test_of_a_turn_and_itself(self):
        for many, wishes in ((2, []), (4, STAR), (4, CIRCLE), (8, [])):
            for one in every_turn(many):
                self.assertEqual(chain(many, wishes, one, one), [one])

    def test_of_a_turn_and_its_other_way(self):
        for wishes in ([], STAR, CIRCLE):
            self.assertEqual(chain(4, wishes, (2, 1), (1, 2)), [(2, 1), (1, 2)])

    def test_over_three_turns(self):
        told = chain(3, [[0, 2]], (0, 1), (2, 1))
        self.assertIn(told, ([(0, 1), (1, 2), (2, 1)], [(0, 1), (1, 0), (2, 1)]))

    def test_none(self):
        self.assertIsNone(chain(3, [], (0, 1), (1, 2)))
        self.assertIsNone(chain(4, [[0, 1]], (0, 1), (2, 3)))
        self.assertIsNone(chain(8, [list(range(8))] * 12, (0, 1), (0, 2)))

    def test_as_a_plain_search_over_few_books(self):
        for many, most in ((2, 1), (3, 3), (4, 2)):
            for wishes in families(many, most):
                for one, other in product(every_turn(many), repeat=2):
                    self.hold(many, wishes, one, other)

    def test_as_a_plain_search_over_more_books(self):
        for seed in range(40):
            many = 5 + seed % 4
            if seed % 2:
                wishes = some_wishes(seed, many, 1 + seed % 4)
            else:
                wishes = kept_wishes(seed, many, seed % 13)[1]
            turns = every_turn(many)
            for other in turns[seed % 3::9]:
                self.hold(many, wishes, turns[seed % len(turns)], other)

    def test_a_far_one(self):
        wishes = [[at, at + 1] for at in range(7)]
        self.hold(8, wishes, (0, 1), (7, 6))
        self.hold(8, wishes, (0, 1), (6, 7))

    def test_somewhat_beyond_the_bounds(self):
        wishes = [[at, at + 1] for at in range(9)] + [[9, 8, 7]] * 5
        self.hold(10, wishes, (0, 1), (8, 9))


class OddRing(unittest.TestCase):
    def hold(self, many, wishes, kept=None):
        told = odd_ring(many, wishes)
        if some_order_keeps(many, wishes) if kept is None else kept:
            self.assertIsNone(told, (many, wishes))
            return
        self.assertTrue(is_odd_ring(many, wishes, told), (many, wishes, told))

    def test_arguments(self):
        self.assertEqual(list(inspect.signature(odd_ring).parameters), ["many", "wishes"])
        self.assertIsNone(odd_ring(many=1, wishes=[]))

    def test_few_books(self):
        for many in (1, 2):
            for wishes in ([], [[]], [[0]], [[0, many - 1], [], [0, 0]] * 4):
                self.assertIsNone(odd_ring(many, wishes))

    def test_no_wishes(self):
        for many in range(1, 9):
            self.assertIsNone(odd_ring(many, []))

    def test_where_none_keeps(self):
        for many in (4, 5, 8):
            self.hold(many, STAR, kept=False)
            self.hold(many, CIRCLE, kept=False)
        self.hold(3, [[0, 1], [1, 2], [2, 0]], kept=False)
        self.hold(8, [[at, (at + 1) % 8] for at in range(8)], kept=False)
        # The clash lies among the last books and behind other wishes.
        self.hold(8, [[], [0, 1, 0], list(range(8)), [5, 6], [6, 7], [7, 5]], kept=False)

    def test_every_family_of_three_and_of_four_books(self):
        for many, most in ((3, 3), (4, 10)):
            for wishes in families(many, most):
                self.hold(many, wishes)

    def test_families_of_five_books(self):
        for wishes in families(5, 2) + families(5, 3)[::3] + families(5, 4)[::29]:
            self.hold(5, wishes)

    def test_as_a_plain_search(self):
        for seed in range(120):
            many = 4 + seed % 3
            self.hold(many, some_wishes(seed, many, 1 + seed % 12))

    def test_eight_books_that_some_order_keeps_but_for_one_wish(self):
        for seed in range(12):
            order, wishes = kept_wishes(seed, 8, 11)
            self.hold(8, wishes, kept=True)
            self.hold(8, wishes + [[order[0], order[4], order[0]]])

    def test_twelve_that_are_kept(self):
        for seed in range(200):
            self.hold(8, kept_wishes(seed, 8, 12)[1], kept=True)

    def test_somewhat_beyond_the_bounds(self):
        around = [[at, (at + 1) % 10] for at in range(10)]
        self.hold(10, around + [[]] * 5, kept=False)
        self.hold(10, around[:9] + [[0, 1, 2]] * 5, kept=True)

    def test_no_book(self):
        for many in (1, 3, 8):
            for wishes in wishes_with_wrong_book(many):
                with self.assertRaises(NoBook, msg=wishes):
                    odd_ring(many, wishes)
        with self.assertRaises(NoBook):
            odd_ring(4, STAR + [[4]])

    def test_what_is_handed_in_stays_and_what_is_told_is_the_askers(self):
        wishes = deepcopy(STAR) + [[3, 3, 1], []]
        before = deepcopy(wishes)
        told = odd_ring(4, wishes)
        self.assertEqual(wishes, before)
        again = list(told)
        told.clear()
        self.assertEqual(odd_ring(4, wishes), again)
        wishes[0].extend([2, 3])
        wishes[1:] = []
        self.assertIsNone(odd_ring(4, wishes))


if __name__ == "__main__":
    unittest.main()
