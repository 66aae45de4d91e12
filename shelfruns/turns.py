"""Turns: which ones bar one another, chains of them, and odd rings."""

from shelfruns.checks import check_books, check_turn, check_wishes


def bar(many, wishes, one, other):
    check_asked(many, wishes, one, other)
    return barring(wishes, one, other)


def chain(many, wishes, one, other):
    check_asked(many, wishes, one, other)
    return paths_from(barred_turns(many, wishes), one).get(other)


def odd_ring(many, wishes):
    check_wishes(many, wishes)
    barred = barred_turns(many, wishes)
    reached = {}
    for turn in barred:
        if turn not in reached:
            paths = paths_from(barred, turn)
            ring = ring_among(barred, paths)
            if ring is not None:
                return ring
            reached.update(paths)
    return None


def check_asked(many, wishes, one, other):
    check_wishes(many, wishes)
    check_books(many, one)
    check_books(many, other)
    check_turn(one)
    check_turn(other)


def barring(wishes, one, other):
    return barring_onward(wishes, one, other) or barring_onward(wishes, other, one)


def barring_onward(wishes, one, other):
    if one[1] != other[0]:
        return False
    if one[0] == other[1]:
        return True
    return any([one[0] in wish and other[1] in wish and one[1] not in wish for wish in wishes])


def all_turns(many):
    turns = []
    for ahead in range(many):
        for behind in range(many):
            if ahead != behind:
                turns.append((ahead, behind))
    return turns


def barred_turns(many, wishes):
    turns = all_turns(many)
    # Each wish is looked through very often, and a book may stand in it many times.
    short_wishes = [sorted(set(wish)) for wish in wishes]
    barred = {}
    for turn in turns:
        barred[turn] = [other for other in turns if barring(short_wishes, turn, other)]
    return barred


def paths_from(barred, start):
    # All turns at one distance come ahead of any farther one, so each path is as short as can be.
    paths = {start: [start]}
    outermost = [start]
    while outermost:
        found = []
        for turn in outermost:
            for near in barred[turn]:
                if near not in paths:
                    paths[near] = paths[turn] + [near]
                    found.append(near)
        outermost = found
    return paths


def ring_among(barred, paths):
    # Paths of shortest length: two turns that bar one another are equally far, or one step apart.
    # Only equally far ones close an odd ring, and where there is no such pair there is none.
    for turn in paths:
        for near in barred[turn]:
            if len(paths[near]) == len(paths[turn]):
                return ring_of_paths(paths[turn], paths[near])
    return None


def ring_of_paths(one, other):
    # What both paths share at their beginning would only be gone to and fro.
    shared = 0
    while one[shared + 1] == other[shared + 1]:
        shared += 1
    return one[shared:] + list(reversed(other[shared + 1:]))
