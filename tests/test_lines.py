import inspect
import re
import unittest
from itertools import combinations, product

from shelfruns.errors import BadLine, NoBook
from shelfruns.lines import read, shown
from tests.plain import kept_wishes, some_wishes, wishes_with_wrong_book

# All signs that a text may have.
SIGNS = [chr(code) for code in range(ord(" "), ord("~") + 1) if chr(code) != "%"]


def every_wish(many):
    return [list(wish) for size in range(many + 1) for wish in combinations(range(many), size)]


def read_plainly(text):
    """What a text has by the words of the document, or None where nothing writes it."""
    if not re.fullmatch("[1-8]:( (-|1?2?3?4?5?6?7?8?))*", text) or "  " in text or text.endswith(" "):
        return None
    many, words = int(text[0]), text.split()[1:]
    wishes = [[] if word == "-" else [int(figure) - 1 for figure in word] for word in words]
    if len(wishes) > 12 or any(book >= many for wish in wishes for book in wish):
        return None
    return many, wishes


class Shown(unittest.TestCase):
    def test_arguments(self):
        self.assertEqual(list(inspect.signature(shown).parameters), ["many", "wishes"])
        self.assertEqual(shown(many=1, wishes=[]), "1:")

    def test_of_the_document(self):
        self.assertEqual(shown(4, [[0, 1], [], [0, 2, 3]]), "4: 12 - 134")

    def test_no_wish(self):
        for many in range(1, 9):
            self.assertEqual(shown(many, []), f"{many}:")

    def test_each_book_once_and_rising(self):
        self.assertEqual(shown(8, [[7, 0, 7, 3, 0], [5, 5], list(range(8))[::-1]]), "8: 148 6 12345678")

    def test_without_books(self):
        self.assertEqual(shown(1, [[]]), "1: -")
        self.assertEqual(shown(2, [[], [], [1], []]), "2: - - 2 -")

    def test_twelve_wishes(self):
        self.assertEqual(shown(8, [[0], [7, 6], []] * 4), "8:" + " 1 78 -" * 4)

    def test_somewhat_beyond_the_bounds(self):
        self.assertEqual(shown(9, [[8, 0]] * 13), "9:" + " 19" * 13)

    def test_no_book(self):
        for many in (1, 4, 8):
            for wishes in wishes_with_wrong_book(many):
                with self.assertRaises(NoBook, msg=wishes):
                    shown(many, wishes)
        with self.assertRaises(NoBook):
            shown(8, [[0]] * 11 + [[8]])

    def test_what_is_handed_in_stays(self):
        wishes = [[2, 0, 2], [], [1]]
        self.assertEqual(shown(3, wishes), "3: 13 - 2")
        self.assertEqual(wishes, [[2, 0, 2], [], [1]])
        wishes[1].append(2)
        wishes.pop()
        self.assertEqual(shown(3, wishes), "3: 13 3")


class Read(unittest.TestCase):
    def hold(self, text):
        expected = read_plainly(text)
        if expected is None:
            self.refuse(text)
        else:
            self.assertEqual(read(text), expected, text)

    def refuse(self, text):
        with self.assertRaises(BadLine, msg=text):
            read(text)

    def test_arguments(self):
        self.assertEqual(list(inspect.signature(read).parameters), ["text"])
        self.assertEqual(read(text="1:"), (1, []))

    def test_of_the_document(self):
        told = read("4: 12 - 134")
        self.assertEqual(told, (4, [[0, 1], [], [0, 2, 3]]))
        self.assertEqual((type(told), type(told[0]), type(told[1])), (tuple, int, list))
        self.assertEqual({type(wish) for wish in told[1]}, {list})
        self.assertEqual({type(book) for wish in told[1] for book in wish}, {int})

    def test_no_wish(self):
        for many in range(1, 9):
            self.assertEqual(read(f"{many}:"), (many, []))

    def test_without_books(self):
        self.assertEqual(read("1: -"), (1, [[]]))
        self.assertEqual(read("8:" + " -" * 12), (8, [[]] * 12))

    def test_eight_books_and_twelve_wishes(self):
        self.assertEqual(read("8:" + " 1 78 -" * 4), (8, [[0], [6, 7], []] * 4))
        self.assertEqual(read("8: 12345678"), (8, [list(range(8))]))

    def test_every_wish_written_and_read_back(self):
        for many in range(1, 9):
            for wish in every_wish(many):
                for wishes in ([wish], [wish, wish], [[], wish], [wish, [0]]):
                    self.assertEqual(read(shown(many, wishes)), (many, wishes))
                    self.assertEqual(read_plainly(shown(many, wishes)), (many, wishes))

    def test_any_wishes_written_and_read_back(self):
        for seed in range(200):
            many = 1 + seed % 8
            for wishes in (some_wishes(seed, many, seed % 13), kept_wishes(seed, many, seed % 13)[1]):
                text = shown(many, wishes)
                self.assertEqual(read(text), (many, [sorted(set(wish)) for wish in wishes]))
                self.assertEqual(shown(*read(text)), text)

    def test_wrong_number_of_books(self):
        for text in ("", "4", ":", "4 :", " 4:", "4::", "0:", "9:", "04:", "10:", "12:", "-4:", "+4:", "4;", "x:", "4.:",
                     "0: -", "9: 1", "9: 9", ": 12", "- 12", "12 - 134", "4 12", "4, 12", "-: 1", "44:", "8" * 40 + ":"):
            self.refuse(text)

    def test_blanks(self):
        for text in (" ", "  ", "4: ", " 4:", "4:12", "4:  12", "4: 12 ", "4: 12  -", " 4: 12", "4 : 12", "4: 1 2 ", "4:-",
                     "4: -  -", "4:12 -", "4: - ", "4:\t12", "4: 12\n", "\n4: 12", "4: 12\t-"):
            self.refuse(text)

    def test_wrong_wishes(self):
        for text in ("4: 21", "4: 11", "4: 132", "4: 1231", "4: 0", "4: 01", "4: 5", "4: 125", "4: 9", "4: --", "4: -1",
                     "4: 1-", "4: 12 - 135", "4: 12 - 314", "4: 1,2", "4: x", "4: 12:", "4: 4: 1", "1: 2", "8: 9",
                     "8: 0", "8: 123456789", "8: 87654321", "4: [0, 1]", "4: 12 | 3", "4: _", "4: +1", "4: 1.0"):
            self.refuse(text)

    def test_more_than_twelve_wishes(self):
        for word in ("-", "1", "12345678"):
            self.assertEqual(len(read("8:" + f" {word}" * 12)[1]), 12)
            for count in (13, 14, 100):
                self.refuse("8:" + f" {word}" * count)

    def test_what_shown_tells_of_too_much(self):
        self.refuse(shown(9, [[0]]))
        self.refuse(shown(8, [[0]] * 13))
        self.refuse(shown(10, []))

    def test_every_short_text(self):
        for size in range(6):
            for signs in product(" :-01239", repeat=size):
                self.hold("".join(signs))
        for size in range(4):
            for signs in product(" :-129.a", repeat=size):
                self.hold("3: 12" + "".join(signs))
                self.hold("3: " + "".join(signs) + " 12")

    def test_every_text_one_sign_away(self):
        for text in ("4: 12 - 134", "8: 12345678", "1:", "1: -", "3: 13 2", "8:" + " 1 -" * 6):
            for place in range(len(text) + 1):
                self.hold(text[:place] + text[place + 1:])
                for sign in SIGNS:
                    self.hold(text[:place] + sign + text[place:])
                    self.hold(text[:place] + sign + text[place + 1:])

    def test_every_text_of_two_signs(self):
        for one, other in product(SIGNS, repeat=2):
            self.hold(one + other)
            self.hold("2: " + one + other)

    def test_what_is_told_is_the_askers(self):
        text = "3: 12 12 - -"
        many, wishes = read(text)
        again = read(text)[1]
        self.assertEqual(len({id(each) for each in [wishes, again] + wishes + again}), 10)
        wishes[0].append(2)
        wishes[2].append(0)
        wishes.pop()
        self.assertEqual(wishes, [[0, 1, 2], [0, 1], [0]])
        self.assertEqual(read(text), (3, [[0, 1], [0, 1], [], []]))


if __name__ == "__main__":
    unittest.main()
