"""Good cells, where the hands take the last empty cells by turns."""

from sidechain.board import copied
from sidechain.chains import winner
from sidechain.hands import check_hand, other_hand


def good(board, hand):
    check_hand(hand)
    # The search takes and lifts cells: the board that was handed in stays as it is.
    return good_cell(copied(board), hand)


def good_cell(board, hand):
    for cell in board.empties():
        board.put(cell, hand)
        won = wins_behind(board, hand)
        board.lift(cell)
        if won:
            return cell
    return None


def wins_behind(board, hand):
    if len(board.empties()) == 0:
        return winner(board) == hand
    return good_cell(board, other_hand(hand)) is None
