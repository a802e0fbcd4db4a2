"""Boards as texts, and texts read as boards."""

from sidechain.board import Board
from sidechain.errors import NoBoard

# The sign of an owner stands at its number: an empty cell has the owner 0.
SIGNS = ".12"


def shown(board):
    return "".join([line_of(board, row) for row in range(board.rows())])


def line_of(board, row):
    signs = [SIGNS[board.owner((row, column))] for column in range(board.columns())]
    return "".join(signs) + "\n"


def read(text):
    lines = lines_of(text)
    board = Board(len(lines), len(lines[0]))
    for row in range(len(lines)):
        if len(lines[row]) != board.columns():
            raise NoBoard("the rows have unlike lengths")
        read_line(board, row, lines[row])
    return board


def lines_of(text):
    parts = text.split("\n")
    # Behind the last line end nothing may follow: what stands there is no line.
    if parts.pop() != "":
        raise NoBoard("there is no line end at the end")
    if len(parts) == 0:
        raise NoBoard("there is no row")
    return parts


def read_line(board, row, line):
    for column in range(len(line)):
        owner = SIGNS.find(line[column])
        if owner < 0:
            raise NoBoard("a cell is written as . or 1 or 2")
        if owner > 0:
            board.put((row, column), owner)
