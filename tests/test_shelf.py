import inspect
import unittest
from random import Random

from shelfruns.errors import FullShelf, NoBook, NoWish
from shelfruns.orders import clash, first, judged
from shelfruns.shelf import Shelf
from tests.plain import BIG, CIRCLE, STAR, is_odd_ring

NUMBERS_BEYOND = (12, 13, -12, -13, BIG, -BIG)


def shelf_with(many, wishes):
    shelf = Shelf(many)
    for wish in wishes:
        shelf.put(wish)
    return shelf


def wrong_wishes(many):
    for book in (-1, many, many + 1, -many, BIG, -BIG):
        yield from ([book], [0, book], [book, 0], [0, book, 0], [book, book])


class Model:
    """What the document says of a shelf, kept in a plain list."""

    def __init__(self, many):
        self.many, self.rows = many, []

    def put(self, wish):
        if any(book not in range(self.many) for book in wish):
            return NoBook
        if len(self.rows) == 12:
            return FullShelf
        self.rows = self.rows + [[book for book in range(self.many) if book in wish]]
        return len(self.rows)

    def take(self, number):
        if number not in range(len(self.rows)):
            return NoWish
        wish = self.rows[number]
        self.rows = self.rows[:number] + self.rows[number + 1:]
        return wish


def answer_of(call, handed):
    try:
        return call(handed)
    except (NoBook, FullShelf, NoWish) as refusal:
        return type(refusal)


class Interface(unittest.TestCase):
    def test_arguments(self):
        for call, names in ((Shelf, ["many"]), (Shelf.put, ["self", "wish"]), (Shelf.take, ["self", "number"]),
                            (Shelf.wishes, ["self"]), (Shelf.told, ["self"]), (Shelf.worst, ["self"])):
            self.assertEqual(list(inspect.signature(call).parameters), names)
        shelf = Shelf(many=2)
        self.assertEqual(shelf.put(wish=[1]), 1)
        self.assertEqual(shelf.take(number=0), [1])

    def test_the_field_many(self):
        for many in range(1, 9):
            shelf = Shelf(many)
            self.assertEqual(shelf.many, many)
            shelf.put([0])
            shelf.take(0)
            self.assertEqual(shelf.many, many)


class Put(unittest.TestCase):
    def test_no_wishes_at_first(self):
        for many in (1, 8):
            self.assertEqual(Shelf(many).wishes(), [])

    def test_behind_the_others(self):
        shelf = Shelf(4)
        self.assertEqual([shelf.put(wish) for wish in ([2, 3], [], [0], [2, 3])], [1, 2, 3, 4])
        self.assertEqual(shelf.wishes(), [[2, 3], [], [0], [2, 3]])

    def test_each_book_once_and_rising(self):
        shelf = shelf_with(8, [[7, 0, 3], [3, 3], [5, 1, 5, 1, 0, 0], list(range(8))[::-1] * 3, []])
        self.assertEqual(shelf.wishes(), [[0, 3, 7], [3], [0, 1, 5], list(range(8)), []])

    def test_one_book(self):
        shelf = shelf_with(1, [[], [0], [0, 0]])
        self.assertEqual(shelf.wishes(), [[], [0], [0]])

    def test_the_twelfth_and_one_more(self):
        shelf = Shelf(3)
        self.assertEqual([shelf.put([at % 3]) for at in range(12)], list(range(1, 13)))
        before = shelf.wishes()
        for wish in ([], [0], [2, 1], [0, 0]):
            with self.assertRaises(FullShelf):
                shelf.put(wish)
            self.assertEqual(shelf.wishes(), before)
        shelf.take(3)
        self.assertEqual(shelf.put([2, 1]), 12)
        self.assertEqual(shelf.wishes(), before[:3] + before[4:] + [[1, 2]])
        with self.assertRaises(FullShelf):
            shelf.put([])

    def test_no_book_changes_nothing(self):
        for many in (1, 4, 8):
            for held in ([], [[0]], [[0], []] * 6):
                shelf = shelf_with(many, held)
                for wish in wrong_wishes(many):
                    # Ahead of FullShelf where there are twelve.
                    with self.assertRaises(NoBook, msg=(many, held, wish)):
                        shelf.put(wish)
                    self.assertEqual(shelf.wishes(), held)

    def test_the_wish_handed_in_is_neither_changed_nor_kept(self):
        shelf, wish = Shelf(4), [3, 1, 3]
        shelf.put(wish)
        self.assertEqual(wish, [3, 1, 3])
        shelf.put(wish)
        wish.append(0)
        wish[0] = 99
        self.assertEqual(shelf.wishes(), [[1, 3], [1, 3]])
        rising = [0, 1]
        shelf.put(rising)
        rising.clear()
        self.assertEqual(shelf.wishes()[2], [0, 1])


class Take(unittest.TestCase):
    def test_those_behind_are_numbered_anew(self):
        shelf = shelf_with(4, [[1, 0], [3, 3], [], [2, 1]])
        self.assertEqual(shelf.take(1), [3])
        self.assertEqual(shelf.wishes(), [[0, 1], [], [1, 2]])
        self.assertEqual(shelf.take(1), [])
        self.assertEqual(shelf.take(1), [1, 2])
        self.assertEqual(shelf.take(0), [0, 1])
        self.assertEqual(shelf.wishes(), [])
        self.assertEqual(shelf.put([3]), 1)
        self.assertEqual(shelf.take(0), [3])

    def test_the_first_and_the_last_of_twelve(self):
        shelf = shelf_with(8, [[at % 8] for at in range(12)])
        self.assertEqual((shelf.take(11), shelf.take(0)), ([3], [0]))
        self.assertEqual(shelf.wishes(), [[at % 8] for at in range(1, 11)])

    def test_no_wish(self):
        for held in ([], [[0]], [[0, 1], [], [2]], [[1], [0]] * 6):
            shelf = shelf_with(3, held)
            for number in (len(held), len(held) + 1, -1, -2, -len(held) - 1) + NUMBERS_BEYOND:
                with self.assertRaises(NoWish, msg=(held, number)):
                    shelf.take(number)
                self.assertEqual(shelf.wishes(), held)

    def test_what_is_taken_is_the_askers(self):
        shelf = shelf_with(3, [[0, 1], [0, 1]])
        taken = shelf.take(0)
        taken.append(2)
        self.assertEqual(shelf.wishes(), [[0, 1]])
        self.assertEqual(shelf.take(0), [0, 1])


class Wishes(unittest.TestCase):
    def test_told_twice_no_list_is_one(self):
        shelf = shelf_with(3, [[0, 1], [], [2]])
        one, other = shelf.wishes(), shelf.wishes()
        lists = [one, other] + one + other
        self.assertEqual(len({id(each) for each in lists}), 8)
        one[0].append(9)
        one.pop()
        self.assertEqual(other, [[0, 1], [], [2]])
        self.assertEqual(shelf.wishes(), other)
        self.assertEqual(shelf.take(0), [0, 1])


class ToldAndWorst(unittest.TestCase):
    def test_without_wishes(self):
        for many in range(1, 9):
            self.assertEqual(Shelf(many).told(), ("order", list(range(many))))
            self.assertIsNone(Shelf(many).worst())

    def test_kept(self):
        shelf = shelf_with(4, [[3, 0], [1, 0, 1]])
        self.assertEqual(shelf.told(), ("order", [1, 0, 3, 2]))
        self.assertIsNone(shelf.worst())

    def test_not_kept_and_kept_again(self):
        shelf = shelf_with(4, STAR + CIRCLE)
        told = shelf.told()
        self.assertEqual((type(told), told[0]), (tuple, "ring"))
        self.assertTrue(is_odd_ring(4, STAR + CIRCLE, told[1]))
        self.assertEqual(shelf.worst(), [3, 4, 5, 6])
        shelf.take(5)
        self.assertEqual(shelf.worst(), [1, 3, 5])
        shelf.take(2)
        self.assertEqual(shelf.wishes(), [[0, 1], [0, 2], [0, 1], [1, 2], [0, 3]])
        self.assertEqual(shelf.worst(), [1, 2, 4])
        shelf.take(1)
        self.assertIsNone(shelf.worst())
        self.assertEqual(shelf.told(), ("order", [2, 1, 0, 3]))

    def test_asking_changes_nothing(self):
        for wishes in (STAR, CIRCLE[:2], STAR * 4):
            shelf = shelf_with(4, wishes)
            before = shelf.wishes()
            told, worst = shelf.told(), shelf.worst()
            self.assertEqual((shelf.told(), shelf.worst(), shelf.wishes()), (told, worst, before))

    def test_what_is_told_is_the_askers(self):
        for wishes in (STAR, CIRCLE[:2]):
            shelf = shelf_with(4, wishes)
            before = judged(4, wishes), clash(4, wishes)
            shelf.told()[1].clear()
            (shelf.worst() or []).clear()
            self.assertEqual((shelf.told(), shelf.worst()), before)
            self.assertIsNot(shelf.told()[1], shelf.told()[1])


class ManyDeeds(unittest.TestCase):
    def do(self, chance, shelf, model):
        if chance.random() < 0.65:
            wish = [chance.randrange(model.many) for _ in range(chance.randrange(model.many + 2))]
            if chance.random() < 0.15:
                wish.insert(chance.randrange(len(wish) + 1), chance.choice((-1, model.many, BIG, -BIG)))
            self.assertEqual(answer_of(shelf.put, wish), model.put(wish))
        else:
            number = chance.choice((chance.randrange(-3, 15), chance.randrange(len(model.rows) + 1)))
            self.assertEqual(answer_of(shelf.take, number), model.take(number))
        self.assertEqual(shelf.wishes(), model.rows)
        self.assertEqual(shelf.many, model.many)

    def ask(self, shelf, model):
        self.assertEqual(shelf.worst(), clash(model.many, model.rows))
        order = first(model.many, model.rows)
        kind, told = shelf.told()
        if order is None:
            self.assertEqual(kind, "ring")
            self.assertTrue(is_odd_ring(model.many, model.rows, told))
        else:
            self.assertEqual((kind, told), ("order", order))

    def test_one_shelf(self):
        for seed in range(32):
            chance, many = Random(seed), 1 + seed % 8
            shelf, model = Shelf(many), Model(many)
            for step in range(120):
                self.do(chance, shelf, model)
                if step % 20 == 0:
                    self.ask(shelf, model)

    def test_two_shelves_side_by_side(self):
        for seed in range(16):
            chance = Random(seed)
            pairs = [(Shelf(many), Model(many)) for many in (1 + seed % 8, 8 - seed % 5)]
            for step in range(120):
                self.do(chance, *pairs[chance.randrange(2)])
                for shelf, model in pairs:
                    self.assertEqual((shelf.many, shelf.wishes()), (model.many, model.rows))
                    if step % 40 == 0:
                        self.ask(shelf, model)

    def test_somewhat_beyond_the_bounds(self):
        shelf = shelf_with(10, [[9, 0], [8, 9]])
        self.assertEqual(shelf.wishes(), [[0, 9], [8, 9]])
        self.assertEqual(shelf.told(), ("order", [0, 9, 8, 1, 2, 3, 4, 5, 6, 7]))


if __name__ == "__main__":
    unittest.main()
