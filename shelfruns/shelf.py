"""A shelf: some books, and wishes that are put and taken away."""

from shelfruns.checks import MOST_WISHES, check_books
from shelfruns.errors import FullShelf, NoWish
from shelfruns.orders import clash, judged


class Shelf:
    def __init__(self, many):
        self.many = many
        self.held = []

    def put(self, wish):
        check_books(self.many, wish)
        if len(self.held) >= MOST_WISHES:
            raise FullShelf(f"there are {MOST_WISHES} wishes already")
        self.held.append(sorted(set(wish)))
        return len(self.held)

    def take(self, number):
        # A number below 0 would be counted from the end.
        if not 0 <= number < len(self.held):
            raise NoWish(f"there is no wish {number}")
        return self.held.pop(number)

    def wishes(self):
        return [list(wish) for wish in self.held]

    def told(self):
        return judged(self.many, self.held)

    def worst(self):
        return clash(self.many, self.held)
