import unittest
from itertools import product

from sidechain.board import Board, mirrored
from sidechain.errors import NoHand
from sidechain.play import good
from tests.boards import (
    BoardCase, LockedBoard, NO_HANDS, board_of, cells_of, every_board, has_joined, mixed_boards, owners_of,
)

SIZES = ((1, 5), (5, 1), (2, 4), (4, 2), (3, 3), (4, 5), (6, 3), (7, 7), (2, 10), (10, 2), (10, 9), (10, 10))


def empty_cells(board):
    return [cell for cell, owner in owners_of(board).items() if owner == 0]


def deciding(board):
    """The cells of a full board that each by itself would make the other hand win."""
    won = 1 if has_joined(board, 1) else 2
    cells = []
    for cell in cells_of(board):
        if board.owner(cell) == won:
            board.lift(cell)
            if not has_joined(board, won):
                cells.append(cell)
            board.put(cell, won)
    return cells


def open_boards(rows, columns, number, most=5):
    """Boards of the size with 1 to so many empty cells, a few that decide and others."""
    for turn, board in enumerate(mixed_boards(number, rows, columns, (1, 2))):
        cells = deciding(board)[:1 + turn // most % 4]
        cells += [cell for cell in cells_of(board)[::-2] if cell not in cells]
        for cell in cells[:turn % most + 1]:
            board.lift(cell)
        yield board


def good_cells(board, hand):
    """Every cell that is good for the hand to move, by point [7] alone."""
    empty = empty_cells(board)
    winners = {}
    for owners in product((1, 2), repeat=len(empty)):
        full = Board(board.rows(), board.columns())
        for cell, owner in {**owners_of(board), **dict(zip(empty, owners))}.items():
            full.put(cell, owner)
        winners[owners] = 1 if has_joined(full, 1) else 2

    def places(owners, hand):
        return [place for place in range(len(owners)) if owners[place] == 0 and wins(owners, hand, place)]

    def wins(owners, hand, place):
        behind = owners[:place] + (hand,) + owners[place + 1:]
        if 0 not in behind:
            return winners[behind] == hand
        return not places(behind, 3 - hand)

    return [empty[place] for place in places((0,) * len(empty), hand)]


class GoodCase(BoardCase):
    def told_rightly(self, board, hand):
        """Checks what is told; gives back how many of the empty cells are good."""
        before = owners_of(board)
        cell = good(board, hand)
        self.assertEqual(owners_of(board), before)
        cells = good_cells(board, hand)
        if cell is None:
            self.assertEqual(cells, [])
        else:
            self.assertIs(type(cell), tuple)
            self.assertIn(cell, cells)
        return len(cells)


class Good(GoodCase):
    def test_where_only_one_answer_can_be(self):
        self.assertEqual(good(board_of("1.1"), 1), (0, 1))
        self.assertEqual(good(board_of("1.1"), 2), (0, 1))
        self.assertEqual(good(board_of("2", ".", "2"), 2), (1, 0))
        self.assertEqual(good(board_of("2", ".", "2"), 1), (1, 0))
        self.assertEqual(good(board_of(".2", "1."), 1), (1, 1))
        self.assertIsNone(good(board_of("1..1"), 1))
        self.assertIsNone(good(board_of("2", ".", "."), 2))

    def test_one_cell(self):
        self.assertEqual(good(board_of("."), 1), (0, 0))
        self.assertEqual(good(board_of("."), 2), (0, 0))

    def test_one_empty_cell_that_decides_nothing(self):
        self.assertEqual(good(board_of("111", "2.2"), 1), (1, 1))
        self.assertIsNone(good(board_of("111", "2.2"), 2))
        self.assertEqual(good(board_of("12", ".2"), 2), (1, 0))
        self.assertIsNone(good(board_of("12", ".2"), 1))

    def test_the_other_hand_moves_next(self):
        # One cell joins either hand, so the two others are worth nothing.
        for hand in (1, 2):
            self.assertEqual(good(board_of("1.1", "2.2", "22."), hand), (0, 1))
        # Either cell joins hand 1: if one is taken from it, it takes the other.
        self.assertIn(good(board_of("2.", "1."), 1), [(0, 1), (1, 1)])
        self.assertIsNone(good(board_of("2.", "1."), 2))
        # Hand 1 would need both.
        self.assertIsNone(good(board_of("1..1", "2222"), 1))
        self.assertIn(good(board_of("1..1", "2222"), 2), [(0, 1), (0, 2)])

    def test_every_small_board(self):
        for rows, columns in ((1, 1), (1, 2), (2, 1), (1, 5), (5, 1), (2, 2), (2, 3), (3, 2)):
            for board in every_board(rows, columns, (0, 1, 2)):
                if 1 <= len(empty_cells(board)) <= 5:
                    self.told_rightly(board, 1)
                    self.told_rightly(board, 2)

    def test_mixed_boards_of_many_sizes(self):
        seen = {"none": 0, "some": 0, "all": 0}
        for rows, columns in SIZES:
            for board in open_boards(rows, columns, 25):
                for hand in (1, 2):
                    number = self.told_rightly(board, hand)
                    kind = "none" if number == 0 else "all" if number == len(empty_cells(board)) else "some"
                    seen[kind] += 1
        # Boards on which nothing is left to decide would prove nothing.
        self.assertGreater(min(seen.values()), 60, seen)

    def test_three_by_three_with_four_and_five_empty_cells(self):
        for board in mixed_boards(400, 3, 3, (0, 1, 2)):
            if len(empty_cells(board)) in (4, 5):
                self.told_rightly(board, 1)
                self.told_rightly(board, 2)

    def test_somewhat_beyond_five_empty_cells_is_not_refused(self):
        for board in open_boards(4, 4, 12, most=6):
            self.told_rightly(board, 1)
            self.told_rightly(board, 2)
        self.told_rightly(Board(2, 3), 1)
        self.told_rightly(Board(2, 3), 2)

    def test_a_number_that_is_no_hand_is_refused(self):
        some = (board_of("."), board_of("12.", ".21"), board_of("1.", ".2"), board_of("12", "21"))
        for board in some + tuple(open_boards(10, 10, 5)):
            before = owners_of(board)
            for hand in NO_HANDS:
                self.refused(NoHand, good, board, hand)
            self.assertEqual(owners_of(board), before)

    def test_arguments_have_their_names(self):
        self.assertEqual(good(board=board_of("."), hand=2), (0, 0))

    def test_asked_again_after_the_board_was_changed(self):
        board = board_of("1.1")
        self.assertEqual(good(board, 1), (0, 1))
        board.lift((0, 2))
        self.assertIsNone(good(board, 1))
        board.put((0, 2), 1)
        self.assertEqual(good(board, 1), (0, 1))

    def test_the_board_is_not_touched_even_for_a_while(self):
        for board in open_boards(3, 4, 10):
            for hand in (1, 2):
                self.assertEqual(good(LockedBoard(board), hand), good(board, hand))

    def test_only_one_of_the_two_hands_wins_from_each_board(self):
        for rows, columns in SIZES:
            for board in open_boards(rows, columns, 10):
                for hand in (1, 2):
                    told = good(board, hand)
                    for cell in empty_cells(board):
                        board.put(cell, hand)
                        if told is None and empty_cells(board):
                            self.assertIsNotNone(good(board, 3 - hand))
                        elif cell == told and empty_cells(board):
                            self.assertIsNone(good(board, 3 - hand))
                        board.lift(cell)

    def test_mirrored_boards(self):
        for rows, columns in SIZES:
            for board in open_boards(rows, columns, 10):
                for hand in (1, 2):
                    told = good(board, hand)
                    self.assertEqual(told is None, good(mirrored(board), 3 - hand) is None)


class ByTurns(GoodCase):
    def play_on(self, board, hand, leader):
        """The leader takes told good cells, the other hand any that is empty."""
        empty = empty_cells(board)
        if not empty:
            self.assertTrue(has_joined(board, leader))
            return
        if hand == leader:
            empty = [good(board, hand)]
            self.assertIsNotNone(empty[0])
        for cell in empty:
            board.put(cell, hand)
            self.play_on(board, 3 - hand, leader)
            board.lift(cell)

    def play(self, board, hand):
        leader = hand if good(board, hand) is not None else 3 - hand
        self.play_on(board, hand, leader)

    def test_the_told_cells_win_whatever_the_other_hand_takes(self):
        for rows, columns in ((2, 3), (3, 2)):
            for board in every_board(rows, columns, (0, 1, 2)):
                if 1 <= len(empty_cells(board)) <= 4:
                    self.play(board, 1)
                    self.play(board, 2)

    def test_on_boards_of_many_sizes(self):
        for rows, columns in SIZES:
            for board in open_boards(rows, columns, 10):
                self.play(board, 1)
                self.play(board, 2)


if __name__ == "__main__":
    unittest.main()
