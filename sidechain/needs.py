"""How many cells a hand needs to join its sides, and what proves the number."""

from sidechain.board import copied
from sidechain.chains import chain, way_to
from sidechain.hands import check_hand, first_side, on_last_side, other_hand


def need(board, hand):
    check_hand(hand)
    numbers = {}
    ahead = {}
    spread(board, hand, numbers, ahead)
    ends = [cell for cell in numbers if on_last_side(board, hand, cell)]
    if len(ends) == 0:
        # With every empty cell put to the hand it would not have joined, so
        # the other hand has, by its own cells alone.
        return ("shut", chain(board, other_hand(hand)))
    end = min(ends, key=lambda cell: numbers[cell])
    number = numbers[end]
    belts = [belt(board, hand, numbers, step) for step in range(1, number + 1)]
    return ("need", number, way_to(end, ahead), belts)


def spread(board, hand, numbers, ahead):
    # Fills in, for each cell that the hand can get to from its first side, the
    # least number of empty cells on a way there, and the cell ahead on that way.
    waiting = passable(board, hand, first_side(board, hand))
    for cell in waiting:
        numbers[cell] = price(board, cell)
        ahead[cell] = None
    while len(waiting) > 0:
        cell = waiting.pop(0)
        for beside in passable(board, hand, board.near(cell)):
            number = numbers[cell] + price(board, beside)
            # Only a lesser number counts: a way that came back to one of its
            # own cells would have no fewer empty ones there.
            if beside not in numbers or number < numbers[beside]:
                numbers[beside] = number
                ahead[beside] = cell
                waiting.append(beside)


def passable(board, hand, cells):
    return [cell for cell in cells if board.owner(cell) != other_hand(hand)]


def price(board, cell):
    return 1 if board.owner(cell) == 0 else 0


def belt(board, hand, numbers, step):
    # The number rises by one at most from cell to cell of a bridge, and only on
    # an empty cell: so no bridge gets past the empty cells of this step, and the
    # other hand would have joined if it had them.
    other = other_hand(hand)
    filled = copied(board)
    for cell in board.empties():
        if cell in numbers and numbers[cell] == step:
            filled.put(cell, other)
    return chain(filled, other)
