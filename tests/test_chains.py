import unittest

from sidechain.board import Board, mirrored
from sidechain.chains import chain, winner
from sidechain.errors import NoHand
from tests.boards import (
    NO_HANDS, WINDING, board_of, every_board, faults_of_chain, has_joined, mixed_boards, owners_of,
)

SMALL = ((1, 1), (1, 2), (2, 1), (1, 5), (5, 1), (2, 2), (2, 3), (3, 2), (2, 4), (4, 2), (3, 3))


class ChainCase(unittest.TestCase):
    def has_chain(self, board, hand):
        before = owners_of(board)
        told = chain(board, hand)
        self.assertEqual(faults_of_chain(board, hand, told), [])
        self.assertEqual(owners_of(board), before)

    def has_none(self, board, hand):
        before = owners_of(board)
        self.assertIsNone(chain(board, hand))
        self.assertEqual(owners_of(board), before)

    def told_rightly(self, board, hand):
        if has_joined(board, hand):
            self.has_chain(board, hand)
        else:
            self.has_none(board, hand)


class Chain(ChainCase):
    def test_where_only_one_chain_can_be(self):
        self.assertEqual(chain(board_of("...", "111"), 1), [(1, 0), (1, 1), (1, 2)])
        self.assertEqual(chain(board_of(".2", ".2", ".2"), 2), [(0, 1), (1, 1), (2, 1)])
        self.assertEqual(chain(board_of("..1", "11."), 1), [(1, 0), (1, 1), (0, 2)])
        self.assertEqual(chain(board_of(".2", "2.", "2."), 2), [(0, 1), (1, 0), (2, 0)])

    def test_the_cells_that_touch_slantwise(self):
        self.assertEqual(chain(board_of(".1", "1."), 1), [(1, 0), (0, 1)])
        self.assertEqual(chain(board_of(".2", "2."), 2), [(0, 1), (1, 0)])
        self.has_none(board_of("1.", ".1"), 1)
        self.has_none(board_of("2.", ".2"), 2)

    def test_the_sides_of_the_other_hand_do_not_count(self):
        self.has_none(board_of("1..", "1..", "1.."), 1)
        self.has_none(board_of("..1", "..1", "..1"), 1)
        self.has_none(board_of("222", "...", "..."), 2)
        self.has_none(board_of("...", "...", "222"), 2)

    def test_cells_of_the_other_hand_and_empty_ones_do_not_count(self):
        self.has_none(board_of("1.1"), 1)
        self.has_none(board_of("121"), 1)
        self.has_none(board_of("2", ".", "2"), 2)
        self.has_none(board_of("2", "1", "2"), 2)

    def test_one_cell(self):
        self.assertEqual(chain(board_of("1"), 1), [(0, 0)])
        self.assertEqual(chain(board_of("2"), 2), [(0, 0)])
        self.has_none(board_of("."), 1)
        self.has_none(board_of("."), 2)
        self.has_none(board_of("2"), 1)
        self.has_none(board_of("1"), 2)

    def test_one_row(self):
        self.assertEqual(chain(board_of("1111"), 1), [(0, 0), (0, 1), (0, 2), (0, 3)])
        self.has_none(board_of("1111"), 2)
        self.has_none(board_of("11.1"), 1)
        self.assertEqual(chain(board_of("11.2"), 2), [(0, 3)])
        self.has_chain(board_of("2222"), 2)
        self.has_none(board_of("2222"), 1)

    def test_one_column(self):
        self.assertEqual(chain(board_of("2", "2", "2"), 2), [(0, 0), (1, 0), (2, 0)])
        self.has_none(board_of("2", "2", "2"), 1)
        self.has_none(board_of("2", ".", "2"), 2)
        self.assertEqual(chain(board_of("2", "1", "2"), 1), [(1, 0)])
        self.has_chain(board_of("1", "1", "1"), 1)
        self.has_none(board_of("1", "1", "1"), 2)

    def test_ten_by_ten(self):
        for hand in (1, 2):
            self.has_none(Board(10, 10), hand)
            self.has_chain(board_of(*(str(hand) * 10,) * 10), hand)
            self.has_none(board_of(*(str(3 - hand) * 10,) * 10), hand)
        for row in range(10):
            board = Board(10, 10)
            for column in range(10):
                self.has_none(board, 1)
                board.put((row, column), 1)
            self.has_chain(board, 1)
            self.has_none(board, 2)

    def test_a_winding_chain_and_every_gap_in_it(self):
        board = board_of(*WINDING)
        self.has_chain(board, 1)
        self.has_chain(mirrored(board), 2)
        for cell in ((9, 1), (5, 2), (0, 3), (1, 4), (9, 5), (8, 6), (0, 7), (4, 8), (9, 9)):
            with self.subTest(cell=cell):
                board.lift(cell)
                self.has_none(board, 1)
                self.has_none(mirrored(board), 2)
                board.put(cell, 2)
                self.has_none(board, 1)
                board.lift(cell)
                board.put(cell, 1)
                self.has_chain(board, 1)

    def test_dead_ends_do_not_come_into_the_chain(self):
        lines = ("1111.", "1..1.", "1.11.", "1....", "11111")
        self.has_chain(board_of(*lines), 1)
        self.has_chain(mirrored(board_of(*lines)), 2)

    def test_every_small_board(self):
        for rows, columns in SMALL:
            for board in every_board(rows, columns, (0, 1, 2)):
                self.told_rightly(board, 1)
                self.told_rightly(board, 2)

    def test_mixed_boards(self):
        for rows, columns in ((10, 10), (4, 7), (10, 3), (2, 10)):
            for owners in ((1, 2), (0, 1, 1), (0, 2, 2), (0, 1, 2, 1, 2)):
                for board in mixed_boards(25, rows, columns, owners):
                    self.told_rightly(board, 1)
                    self.told_rightly(board, 2)

    def test_a_number_that_is_no_hand_is_refused(self):
        for board in (Board(1, 1), board_of("12.", ".21"), board_of("11", "22")):
            before = owners_of(board)
            for hand in NO_HANDS:
                with self.assertRaises(NoHand):
                    chain(board, hand)
            self.assertEqual(owners_of(board), before)

    def test_the_list_is_a_new_one(self):
        board = board_of("111", "...")
        chain(board, 1).clear()
        self.assertEqual(chain(board, 1), [(0, 0), (0, 1), (0, 2)])
        chain(board, 1).append((1, 1))
        self.assertEqual(chain(board, 1), [(0, 0), (0, 1), (0, 2)])
        self.assertEqual(owners_of(board), owners_of(board_of("111", "...")))

    def test_asked_again_after_the_board_was_changed(self):
        board = board_of("111", "...")
        told = chain(board, 1)
        board.lift((0, 1))
        self.has_none(board, 1)
        self.assertEqual(told, [(0, 0), (0, 1), (0, 2)])
        board.put((0, 1), 1)
        self.has_chain(board, 1)

    def test_arguments_have_their_names(self):
        self.assertEqual(chain(board=board_of("1"), hand=1), [(0, 0)])
        self.assertEqual(winner(board=board_of("1")), 1)


class Winner(ChainCase):
    def test_full_boards_told_by_hand(self):
        self.assertEqual(winner(board_of("1")), 1)
        self.assertEqual(winner(board_of("2")), 2)
        self.assertEqual(winner(board_of("111")), 1)
        self.assertEqual(winner(board_of("121")), 2)
        self.assertEqual(winner(board_of("2", "2")), 2)
        self.assertEqual(winner(board_of("2", "1")), 1)
        self.assertEqual(winner(board_of("21", "12")), 1)
        self.assertEqual(winner(board_of("12", "21")), 2)
        self.assertEqual(winner(board_of(*("1" * 10,) * 10)), 1)
        self.assertEqual(winner(board_of(*("2" * 10,) * 10)), 2)

    def test_none_where_a_cell_is_empty(self):
        self.assertIsNone(winner(Board(1, 1)))
        self.assertIsNone(winner(Board(10, 10)))
        self.assertIsNone(winner(board_of("111", "22.")))
        self.assertIsNone(winner(board_of(".2", "12")))
        for owner in (1, 2):
            board = board_of(*(str(owner) * 10,) * 10)
            for cell in ((0, 0), (0, 9), (4, 5), (9, 0), (9, 9)):
                board.lift(cell)
                self.assertIsNone(winner(board))
                board.put(cell, owner)
                self.assertEqual(winner(board), owner)

    def test_on_every_small_full_board_just_one_hand_has_joined(self):
        for rows, columns in SMALL + ((3, 4), (4, 3)):
            for board in every_board(rows, columns, (1, 2)):
                before = owners_of(board)
                joined = [hand for hand in (1, 2) if chain(board, hand) is not None]
                self.assertEqual(len(joined), 1)
                self.assertEqual(winner(board), joined[0])
                self.assertTrue(has_joined(board, joined[0]))
                self.assertEqual(owners_of(board), before)

    def test_on_mixed_full_boards_just_one_hand_has_joined(self):
        for rows, columns in ((10, 10), (9, 10), (5, 6)):
            for board in mixed_boards(60, rows, columns, (1, 2)):
                joined = [hand for hand in (1, 2) if chain(board, hand) is not None]
                self.assertEqual([winner(board)], joined)

    def test_never_have_both_joined_and_none_wins_early(self):
        for rows, columns in SMALL:
            for board in every_board(rows, columns, (0, 1, 2)):
                self.assertFalse(chain(board, 1) is not None and chain(board, 2) is not None)
                if 0 in owners_of(board).values():
                    self.assertIsNone(winner(board))


class MirroredChains(ChainCase):
    def test_what_a_hand_has_the_other_one_has_on_the_mirrored_board(self):
        for rows, columns in ((1, 1), (1, 3), (2, 3), (3, 2), (2, 4)):
            for board in every_board(rows, columns, (0, 1, 2)):
                turned = mirrored(board)
                for hand in (1, 2):
                    told = chain(board, hand)
                    if told is None:
                        self.has_none(turned, 3 - hand)
                    else:
                        self.has_chain(turned, 3 - hand)
                        swapped = [(column, row) for row, column in told]
                        self.assertEqual(faults_of_chain(turned, 3 - hand, swapped), [])
                if winner(board) is None:
                    self.assertIsNone(winner(turned))
                else:
                    self.assertEqual(winner(turned), 3 - winner(board))


if __name__ == "__main__":
    unittest.main()
