"""Boards of six-sided cells."""

from sidechain.errors import CellEmpty, CellTaken, NoBoard, NoCell
from sidechain.hands import check_hand, other_hand

MOST = 10


class Board:
    def __init__(self, rows, columns):
        check_length(rows)
        check_length(columns)
        self.height = rows
        self.width = columns
        # Every cell has its key from the start, row by row: so the keys tell
        # what is a cell at all, and a walk over them keeps the order of empties.
        self.owners = {}
        for row in range(rows):
            for column in range(columns):
                self.owners[(row, column)] = 0

    def rows(self):
        return self.height

    def columns(self):
        return self.width

    def put(self, cell, hand):
        self.check_cell(cell)
        check_hand(hand)
        if self.owners[cell] != 0:
            raise CellTaken("the cell belongs to a hand")
        self.owners[cell] = hand

    def lift(self, cell):
        self.check_cell(cell)
        if self.owners[cell] == 0:
            raise CellEmpty("the cell is empty")
        self.owners[cell] = 0

    def owner(self, cell):
        self.check_cell(cell)
        return self.owners[cell]

    def near(self, cell):
        self.check_cell(cell)
        row = cell[0]
        column = cell[1]
        around = [
            (row - 1, column),
            (row - 1, column + 1),
            (row, column - 1),
            (row, column + 1),
            (row + 1, column - 1),
            (row + 1, column),
        ]
        return [other for other in around if other in self.owners]

    def empties(self):
        return [cell for cell in self.owners if self.owners[cell] == 0]

    def check_cell(self, cell):
        if cell not in self.owners:
            raise NoCell("the pair is no cell of the board")


def check_length(number):
    if number < 1 or number > MOST:
        raise NoBoard("a board has 1 to 10 rows and 1 to 10 columns")


def mirrored(board):
    turned = Board(board.columns(), board.rows())
    for row in range(board.rows()):
        for column in range(board.columns()):
            hand = board.owner((row, column))
            if hand != 0:
                turned.put((column, row), other_hand(hand))
    return turned


def copied(board):
    same = Board(board.rows(), board.columns())
    same.owners = dict(board.owners)
    return same
