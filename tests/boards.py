"""What the tests share: boards, and the points of the document told a second time.

Nothing here asks the program for neighbours or sides: a fault of the program
must not hide itself in the tests.
"""

import unittest
from itertools import product

from sidechain.board import Board

STEPS = ((-1, 0), (-1, 1), (0, -1), (0, 1), (1, -1), (1, 0))
FAR = 10 ** 5000
NO_HANDS = (0, 3, -1, -2, 4, 12, 100, FAR, -FAR)
# Hand 1 winds from side to side through every second column.
WINDING = (
    "1.111.111.",
    "1.1.1.1.1.",
    "1.1.1.1.1.",
    "1.1.1.1.1.",
    "1.1.1.1.1.",
    "1.1.1.1.1.",
    "1.1.1.1.1.",
    "1.1.1.1.1.",
    "1.1.1.1.1.",
    "111.111.11",
)


class BoardCase(unittest.TestCase):
    def refused(self, error, call, *arguments):
        """The call raises just this class of refusal."""
        with self.assertRaises(error) as caught:
            call(*arguments)
        self.assertIs(type(caught.exception), error)


def board_of(*lines):
    board = Board(len(lines), len(lines[0]))
    for row, line in enumerate(lines):
        for column, sign in enumerate(line):
            if sign != ".":
                board.put((row, column), int(sign))
    return board


class LockedBoard(Board):
    """A board that no one may change any more, not even for a while."""

    def __init__(self, board):
        Board.__init__(self, board.rows(), board.columns())
        for cell, owner in owners_of(board).items():
            if owner != 0:
                Board.put(self, cell, owner)

    def put(self, cell, hand):
        raise AssertionError("put on a board that was handed in")

    def lift(self, cell):
        raise AssertionError("lift on a board that was handed in")


def cells_of(board):
    return list(product(range(board.rows()), range(board.columns())))


def owners_of(board):
    return {cell: board.owner(cell) for cell in cells_of(board)}


def every_board(rows, columns, owners):
    """Every board of the size whose cells have an owner out of owners."""
    for line in product(owners, repeat=rows * columns):
        board = Board(rows, columns)
        for place, owner in enumerate(line):
            if owner != 0:
                board.put(divmod(place, columns), owner)
        yield board


def mixed_boards(number, rows, columns, owners):
    """So many boards of the size, mixed but the same in every run."""
    state = 12345
    for turn in range(number):
        board = Board(rows, columns)
        for cell in cells_of(board):
            state = (state * 1103515245 + 12345) % 2 ** 31
            owner = owners[(state >> 16) % len(owners)]
            if owner != 0:
                board.put(cell, owner)
        yield board


def pairs_off(rows, columns):
    """Pairs that are no cells of a board of the size."""
    off = []
    for row in (-FAR, -rows, -2, -1, rows, rows + 1, 100, FAR):
        off.extend([(row, 0), (row, columns - 1)])
    for column in (-FAR, -columns, -2, -1, columns, columns + 1, 100, FAR):
        off.extend([(0, column), (rows - 1, column)])
    off.extend([(-1, -1), (-1, columns), (rows, -1), (rows, columns)])
    return off


def on_first(board, hand, cell):
    return cell[2 - hand] == 0


def on_last(board, hand, cell):
    return cell[2 - hand] == (board.rows(), board.columns())[2 - hand] - 1


def has_joined(board, hand):
    """Whether the hand has joined, by flooding from its first side."""
    own = {cell for cell, owner in owners_of(board).items() if owner == hand}
    flood = {cell for cell in own if on_first(board, hand, cell)}
    edge = set(flood)
    while edge:
        edge = {(r + a, c + b) for r, c in edge for a, b in STEPS} & own - flood
        flood |= edge
    return any(on_last(board, hand, cell) for cell in flood)


def faults_of_chain(board, hand, cells, empty_too=False):
    """What keeps the cells from being a chain of the hand: point [3], word by word.

    Its cells have to be the hand's own or, where empty ones may be in it too,
    its own or empty.
    """
    owners = (hand, 0) if empty_too else (hand,)
    if type(cells) is not list:
        return ["no list"]
    if not cells:
        return ["no cell in it"]
    faults = []
    for cell in cells:
        if type(cell) is not tuple or cell not in cells_of(board):
            return [f"{cell} is no cell"]
        if board.owner(cell) not in owners:
            faults.append(f"{cell} is not the hand's")
    if len(set(cells)) != len(cells):
        faults.append("two cells alike")
    for ahead, cell in zip(cells, cells[1:]):
        if (cell[0] - ahead[0], cell[1] - ahead[1]) not in STEPS:
            faults.append(f"{cell} is no neighbour of {ahead}")
    if not on_first(board, hand, cells[0]):
        faults.append("does not begin on the first side")
    if not on_last(board, hand, cells[-1]):
        faults.append("does not end on the last side")
    return faults
