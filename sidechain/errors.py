"""The refusals of the program."""


class BoardError(ValueError):
    pass


class NoBoard(BoardError):
    pass


class NoCell(BoardError):
    pass


class NoHand(BoardError):
    pass


class CellTaken(BoardError):
    pass


class CellEmpty(BoardError):
    pass
