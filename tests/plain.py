"""What the document says, found by plain search, for the tests to compare with."""

from itertools import permutations
from random import Random

BIG = 10 ** 40 - 1


def every_order(many):
    return [list(order) for order in permutations(range(many))]


def stands_plainly(order, wish):
    row = "".join("x" if book in wish else "." for book in order)
    return "." not in row.strip(".")


def keeps_plainly(order, wishes):
    return all(stands_plainly(order, wish) for wish in wishes)


def some_order_keeps(many, wishes):
    return any(keeps_plainly(order, wishes) for order in permutations(range(many)))


def every_turn(many):
    return list(permutations(range(many), 2))


def bar_plainly(wishes, one, other):
    for (a, b), (again, c) in ((one, other), (other, one)):
        if b == again and a == c:
            return True
        if b == again and any({a, c} <= set(wish) and b not in wish for wish in wishes):
            return True
    return False


def turns_needed(many, wishes, one, other):
    reached = {one}
    for count in range(1, many * many + 1):
        if other in reached:
            return count
        reached |= {turn for turn in every_turn(many)
                    if any(bar_plainly(wishes, turn, at) for at in reached)}
    return None


def some_wishes(seed, many, count):
    """Wishes in which books stand in any order and more than once, some wishes without any."""
    chance = Random(seed)
    return [[chance.randrange(many) for _ in range(chance.randrange(many + 1))] for _ in range(count)]


def kept_wishes(seed, many, count):
    """Wishes that one hidden order keeps."""
    chance = Random(seed)
    order = list(range(many))
    chance.shuffle(order)
    wishes = []
    for _ in range(count):
        begin, end = sorted([chance.randrange(many + 1), chance.randrange(many + 1)])
        wish = order[begin:end]
        chance.shuffle(wish)
        wishes.append(wish)
    return order, wishes


def wishes_with_wrong_book(many):
    """Wishes with a book that isn't there, at any place."""
    for book in (-1, many, many + 1, -many, BIG, -BIG):
        yield [[book]]
        yield [[0, book]]
        yield [[book, 0, 0]]
        yield [[], [0], [0, book]]
        yield [[book], [], [0]]
        yield [[0], [0, book, 0], []]
