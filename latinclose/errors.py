"""The refusals, each a class of its own under SquareError."""


class SquareError(ValueError):
    pass


class NoSquare(SquareError):
    pass


class Twice(SquareError):
    def __init__(self, cell):
        self.cell = cell


class NoCell(SquareError):
    pass


class NoThing(SquareError):
    pass


class NoPart(SquareError):
    pass


class TooMany(SquareError):
    def __init__(self, most):
        self.most = most


class TooGreat(SquareError):
    pass


class NoText(SquareError):
    pass


class NoRow(SquareError):
    pass


class NoFigure(SquareError):
    pass


class NotWhole(SquareError):
    pass
