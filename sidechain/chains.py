"""Chains of a hand's own cells, and the winner of a full board."""

from sidechain.hands import check_hand, first_side, on_last_side


def chain(board, hand):
    check_hand(hand)
    starts = [cell for cell in first_side(board, hand) if board.owner(cell) == hand]
    # For each cell that was reached, the cell ahead of it: its keys are never
    # reached again, so no cell can come twice into a chain.
    ahead = {}
    for cell in starts:
        ahead[cell] = None
    waiting = starts
    while len(waiting) > 0:
        cell = waiting.pop()
        if on_last_side(board, hand, cell):
            return way_to(cell, ahead)
        for other in board.near(cell):
            if other not in ahead and board.owner(other) == hand:
                ahead[other] = cell
                waiting.append(other)
    return None


def way_to(cell, ahead):
    way = []
    while cell is not None:
        way.append(cell)
        cell = ahead[cell]
    way.reverse()
    return way


def winner(board):
    if len(board.empties()) > 0:
        return None
    if chain(board, 1) is not None:
        return 1
    # On a full board just one of the two hands has joined.
    return 2
