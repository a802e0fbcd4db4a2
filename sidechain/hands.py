"""The two hands, 1 and 2, and the sides that each of them joins."""

from sidechain.errors import NoHand


def check_hand(hand):
    if hand != 1 and hand != 2:
        # The number is not shown: Python refuses to write out a very long one.
        raise NoHand("a hand is 1 or 2")


def other_hand(hand):
    return 3 - hand


def first_side(board, hand):
    if hand == 1:
        return [(row, 0) for row in range(board.rows())]
    return [(0, column) for column in range(board.columns())]


def on_last_side(board, hand, cell):
    if hand == 1:
        return cell[1] == board.columns() - 1
    return cell[0] == board.rows() - 1
