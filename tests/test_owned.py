"""What is handed in is neither changed nor kept, and what is told is the asker's own: over the whole program."""

import unittest
from copy import deepcopy

from shelfruns.lines import read, shown
from shelfruns.orders import clash, first, following, judged
from shelfruns.shelf import Shelf
from shelfruns.turns import bar, chain, odd_ring
from shelfruns.wishes import kept, stands
from tests.plain import CIRCLE, STAR


def put_all(wishes):
    shelf = Shelf(4)
    for wish in wishes:
        shelf.put(wish)
    return shelf


CALLS = {
    "stands": lambda wishes, order: [stands(4, order, wish) for wish in wishes],
    "kept": lambda wishes, order: kept(4, order, wishes),
    "bar": lambda wishes, order: bar(4, wishes, (0, 1), (1, 2)),
    "chain": lambda wishes, order: chain(4, wishes, (0, 1), (2, 1)),
    "odd_ring": lambda wishes, order: odd_ring(4, wishes),
    "first": lambda wishes, order: first(4, wishes),
    "following": lambda wishes, order: following(4, wishes, order),
    "judged": lambda wishes, order: judged(4, wishes),
    "clash": lambda wishes, order: clash(4, wishes),
    "shelf": lambda wishes, order: put_all(wishes).wishes(),
    "taken": lambda wishes, order: put_all(wishes).take(0),
    "told": lambda wishes, order: put_all(wishes).told(),
    "worst": lambda wishes, order: put_all(wishes).worst(),
    "shown": lambda wishes, order: shown(4, wishes),
    "read": lambda wishes, order: read(shown(4, wishes)),
}
WISHES = (
    [[0, 1]], [[0, 1], [1, 2]], [[0, 1], [], [3, 2, 3], [1, 2]], STAR, CIRCLE, STAR + CIRCLE, STAR * 4, [[3, 2, 1, 0]],
)
ORDERS = ([0, 1, 2, 3], [0, 2, 3, 1], [3, 2, 1, 0])


def lists_in(value):
    found = [value] if isinstance(value, list) else []
    if isinstance(value, (list, tuple)):
        for inner in value:
            found += lists_in(inner)
    return found


def spoil(value):
    for each in lists_in(value):
        each[:] = [77, -5]


class Owned(unittest.TestCase):
    def each(self):
        for name, call in CALLS.items():
            for wishes in WISHES:
                for order in ORDERS:
                    yield name, call, [list(wish) for wish in wishes], list(order)

    def test_what_is_handed_in_is_not_changed(self):
        for name, call, wishes, order in self.each():
            before = deepcopy((wishes, order))
            call(wishes, order)
            self.assertEqual((wishes, order), before, name)

    def test_no_two_lists_are_one(self):
        for name, call, wishes, order in self.each():
            one, other = call(wishes, order), call(wishes, order)
            lists = lists_in((one, other, wishes, order))
            self.assertEqual(len({id(each) for each in lists}), len(lists), name)

    def test_nothing_hangs_on_what_was_told_or_handed_in(self):
        for name, call, wishes, order in self.each():
            before, kept_apart = deepcopy((wishes, order)), call(wishes, order)
            expected = deepcopy(kept_apart)
            spoil(call(wishes, order))
            self.assertEqual((wishes, order), before, name)
            spoil((wishes, order))
            self.assertEqual(kept_apart, expected, name)
            self.assertEqual(call(*before), expected, name)

    def test_one_wish_handed_in_at_many_places(self):
        wish = [1, 0]
        wishes = [wish] * 12
        self.assertEqual(first(4, wishes), [0, 1, 2, 3])
        shelf = put_all(wishes)
        told = shelf.wishes()
        self.assertEqual(len({id(each) for each in [wish, wishes, told] + told}), 15)
        shelf.take(0).append(3)
        wish.append(2)
        self.assertEqual(shelf.wishes(), [[0, 1]] * 11)


if __name__ == "__main__":
    unittest.main()
