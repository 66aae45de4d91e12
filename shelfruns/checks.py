"""What is looked at before anything is answered.

NoBook goes ahead of any other refusal, so whoever asks calls the checks of books first.
"""

from shelfruns.errors import NoBook, NoOrder, NoTurn

MOST_WISHES = 12


def check_books(many, books):
    for book in books:
        if not 0 <= book < many:
            raise NoBook(f"there is no book {book}, there are {many}")


def check_wishes(many, wishes):
    for wish in wishes:
        check_books(many, wish)


def check_order(many, order):
    if sorted(order) != list(range(many)):
        raise NoOrder(f"{order} has not each of the {many} books once")


def check_turn(turn):
    if turn[0] == turn[1]:
        raise NoTurn(f"{turn} is of a book and itself")
