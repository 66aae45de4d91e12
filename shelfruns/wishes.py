"""Which wishes stand in an order."""

from shelfruns.checks import check_books, check_order, check_wishes


def stands(many, order, wish):
    check_books(many, wish)
    check_order(many, order)
    return together(order, wish)


def kept(many, order, wishes):
    check_wishes(many, wishes)
    check_order(many, order)
    return [number for number, wish in enumerate(wishes) if together(order, wish)]


def together(order, wish):
    # The places come out of the order, not of the wish: there a book may stand more than once.
    places = [place for place, book in enumerate(order) if book in wish]
    return len(places) == 0 or places[-1] - places[0] == len(places) - 1
