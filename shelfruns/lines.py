"""Wishes written as a line of text, and read from one."""

from shelfruns.checks import MOST_WISHES, check_wishes
from shelfruns.errors import BadLine

FIGURES = "12345678"
NO_BOOKS = "-"


def shown(many, wishes):
    check_wishes(many, wishes)
    return " ".join([f"{many}:"] + [shown_wish(wish) for wish in wishes])


def read(text):
    words = text.split(" ")
    many = read_many(words[0])
    if len(words) - 1 > MOST_WISHES:
        raise BadLine(f"there are more than {MOST_WISHES} wishes")
    return (many, [read_wish(many, word) for word in words[1:]])


def shown_wish(wish):
    if len(wish) == 0:
        return NO_BOOKS
    return "".join([str(book + 1) for book in sorted(set(wish))])


def read_many(word):
    if len(word) != 2 or word[0] not in FIGURES or word[1] != ":":
        raise BadLine(f"{word!r} is not the number of books and a colon")
    return FIGURES.index(word[0]) + 1


def read_wish(many, word):
    if word == NO_BOOKS:
        return []
    rising = [figure for figure in FIGURES[:many] if figure in word]
    if len(rising) == 0 or "".join(rising) != word:
        raise BadLine(f"{word!r} is not a wish of {many} books")
    return [FIGURES.index(figure) for figure in rising]
