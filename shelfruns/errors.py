"""The refusals: one class for each."""


class ShelfError(ValueError):
    pass


class NoBook(ShelfError):
    pass


class NoTurn(ShelfError):
    pass


class NoOrder(ShelfError):
    pass


class NoWish(ShelfError):
    pass


class FullShelf(ShelfError):
    pass


class BadLine(ShelfError):
    pass
