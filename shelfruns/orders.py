"""Orders that keep wishes: the first one, the one behind another, and the clash where there is none."""

from shelfruns.checks import check_order, check_wishes
from shelfruns.turns import odd_ring


def first(many, wishes):
    check_wishes(many, wishes)
    return Search(many, wishes).completed([])


def following(many, wishes, order):
    check_wishes(many, wishes)
    check_order(many, order)
    search = Search(many, wishes)
    # The more places an order shares with the one handed in, the sooner it comes behind it.
    for place in range(many - 1, -1, -1):
        begun = order[:place]
        if search.begins_well(begun):
            later = [book for book in search.next_books(begun) if book > order[place]]
            found = search.completed_with(begun, later)
            if found is not None:
                return found
    return None


def judged(many, wishes):
    order = first(many, wishes)
    if order is None:
        return ("ring", odd_ring(many, wishes))
    return ("order", order)


def clash(many, wishes):
    if first(many, wishes) is not None:
        return None
    left = list(range(len(wishes)))
    for number in range(len(wishes)):
        others = [other for other in left if other != number]
        if first(many, [wishes[other] for other in others]) is None:
            left = others
    return left


# Orders are built book by book from the left, the least book first, so that the first one found is the first one.
# Books are held as bits, so that the same ones are one number however they stand.
class Search:
    def __init__(self, many, wishes):
        self.many = many
        self.wanted = [bits_of(wish) for wish in wishes]
        self.dead_ends = {}

    def next_books(self, begun):
        placed = bits_of(begun)
        books = [book for book in range(self.many) if not has(placed, book)]
        for wish in self.wanted:
            # A wish with some of its books on the shelf, but not all, lets no other book in.
            if (placed & wish) not in (0, wish):
                books = [book for book in books if has(wish, book)]
        return books

    def begins_well(self, begun):
        return all([book in self.next_books(begun[:place]) for place, book in enumerate(begun)])

    def completed(self, begun):
        if len(begun) >= self.many:
            return begun
        # What may come behind hangs on which books stand there, not on how: each set of them is tried once.
        placed = bits_of(begun)
        if placed in self.dead_ends:
            return None
        order = self.completed_with(begun, self.next_books(begun))
        if order is None:
            self.dead_ends[placed] = True
        return order

    def completed_with(self, begun, books):
        for book in books:
            order = self.completed(begun + [book])
            if order is not None:
                return order
        return None


def bits_of(books):
    bits = 0
    for book in books:
        bits = bits | (1 << book)
    return bits


def has(bits, book):
    return (bits >> book) & 1 == 1
