"""What the document says, found by plain search, for the tests to compare with."""

from itertools import combinations, permutations
from random import Random

BIG = 10 ** 40 - 1
# No order keeps these: 0 would stand beside each of the three others.
STAR = [[0, 1], [0, 2], [0, 3]]
CIRCLE = [[0, 1], [1, 2], [2, 3], [3, 0]]
EIGHT = [3, 1, 4, 0, 5, 7, 2, 6]
NO_ORDERS_OF_THREE = (
    [], [0], [0, 1], [1, 2], [0, 1, 1], [0, 0, 0], [0, 1, 2, 2], [0, 1, 2, 3], [0, 1, 3], [1, 2, 3],
    [-1, 0, 1], [0, 1, -1], [0, 1, 2, -1], [0, 1, BIG], [-BIG, 1, 2], [0, 1, 2, BIG],
    [0, 1, 2, 0, 1, 2], list(range(20)), [0] * 20,
)
NO_ORDERS_OF_EIGHT = (EIGHT[:7], EIGHT + [8], EIGHT + [0], [8] + EIGHT[1:], [1] + EIGHT[1:])


def every_order(many):
    return [list(order) for order in permutations(range(many))]


def stands_plainly(order, wish):
    row = "".join("x" if book in wish else "." for book in order)
    return "." not in row.strip(".")


def keeps_plainly(order, wishes):
    return all(stands_plainly(order, wish) for wish in wishes)


def some_order_keeps(many, wishes):
    return any(keeps_plainly(order, wishes) for order in permutations(range(many)))


def kept_orders(many, wishes):
    """All orders that keep the wishes, the first one first."""
    return sorted(order for order in every_order(many) if keeps_plainly(order, wishes))


def clash_plainly(many, wishes):
    if some_order_keeps(many, wishes):
        return None
    left = dict(enumerate(wishes))
    for number in range(len(wishes)):
        wish = left.pop(number)
        if some_order_keeps(many, left.values()):
            left[number] = wish
    return sorted(left)


def every_turn(many):
    return list(permutations(range(many), 2))


def bar_plainly(wishes, one, other):
    for (a, b), (again, c) in ((one, other), (other, one)):
        if b == again and a == c:
            return True
        if b == again and any({a, c} <= set(wish) and b not in wish for wish in wishes):
            return True
    return False


def is_odd_ring(many, wishes, told):
    """Whether it is a list of turns that is an odd ring."""
    return (
        type(told) is list
        and all(type(turn) is tuple and turn in every_turn(many) for turn in told)
        and len(told) >= 3
        and len(told) % 2 == 1
        and all(bar_plainly(wishes, before, behind) for before, behind in zip(told, told[1:] + told[:1]))
    )


def turns_needed(many, wishes, one, other):
    reached = {one}
    for count in range(1, many * many + 1):
        if other in reached:
            return count
        reached |= {turn for turn in every_turn(many)
                    if any(bar_plainly(wishes, turn, at) for at in reached)}
    return None


def families(many, most):
    """All lists of at most so many unlike wishes, each one that some order doesn't keep."""
    single = [list(wish) for size in range(2, many) for wish in combinations(range(many), size)]
    return [list(some) for count in range(most + 1) for some in combinations(single, count)]


def some_wishes(seed, many, count):
    """Wishes in which books stand in any order and more than once, some wishes without any."""
    chance = Random(seed)
    return [[chance.randrange(many) for _ in range(chance.randrange(many + 1))] for _ in range(count)]


def kept_wishes(seed, many, count):
    """Wishes that one hidden order keeps."""
    chance = Random(seed)
    order = list(range(many))
    chance.shuffle(order)
    wishes = []
    for _ in range(count):
        begin, end = sorted([chance.randrange(many + 1), chance.randrange(many + 1)])
        wish = order[begin:end]
        chance.shuffle(wish)
        wishes.append(wish)
    return order, wishes


def wishes_with_wrong_book(many):
    """Wishes with a book that isn't there, at any place."""
    for book in (-1, many, many + 1, -many, BIG, -BIG):
        yield [[book]]
        yield [[0, book]]
        yield [[book, 0, 0]]
        yield [[], [0], [0, book]]
        yield [[book], [], [0]]
        yield [[0], [0, book, 0], []]
