import unittest

from sidechain.board import Board, mirrored
from sidechain.errors import CellEmpty, CellTaken, NoBoard, NoCell, NoHand
from tests.boards import BoardCase, FAR, NO_HANDS, board_of, cells_of, every_board, owners_of, pairs_off

SIZES = ((1, 1), (1, 10), (10, 1), (2, 3), (3, 2), (4, 7), (10, 10))


class Sizes(BoardCase):
    def test_every_size_that_is_told_is_taken(self):
        for rows in range(1, 11):
            for columns in range(1, 11):
                board = Board(rows, columns)
                self.assertEqual((board.rows(), board.columns()), (rows, columns))

    def test_numbers_that_are_not_1_to_10_are_refused(self):
        for number in (0, 11, 12, -1, -5, -10, 100, FAR, -FAR):
            for good in (1, 5, 10):
                with self.subTest(good=good):
                    self.refused(NoBoard, Board, number, good)
                    self.refused(NoBoard, Board, good, number)
            self.refused(NoBoard, Board, number, number)

    def test_arguments_have_their_names(self):
        board = Board(rows=2, columns=3)
        self.assertEqual((board.rows(), board.columns()), (2, 3))
        board.put(cell=(1, 2), hand=2)
        self.assertEqual(board.owner(cell=(1, 2)), 2)
        board.lift(cell=(1, 2))
        self.assertEqual(board.near(cell=(0, 0)), [(0, 1), (1, 0)])
        self.assertEqual(mirrored(board=board).rows(), 3)


class PutLiftOwner(BoardCase):
    def test_a_new_board_is_empty(self):
        for rows, columns in SIZES:
            board = Board(rows, columns)
            self.assertEqual(set(owners_of(board).values()), {0})

    def test_a_cell_belongs_to_the_hand_until_it_is_lifted(self):
        for rows, columns in SIZES:
            for hand in (1, 2):
                board = Board(rows, columns)
                for cell in cells_of(board):
                    before = owners_of(board)
                    self.assertIsNone(board.put(cell, hand))
                    self.assertEqual(owners_of(board), {**before, cell: hand})
                    self.assertIsNone(board.lift(cell))
                    self.assertEqual(owners_of(board), before)

    def test_a_lifted_cell_is_free_for_either_hand(self):
        board = Board(2, 2)
        for hand in (1, 2, 2, 1, 1):
            board.put((1, 0), hand)
            self.assertEqual(board.owner((1, 0)), hand)
            board.lift((1, 0))
            self.assertEqual(board.owner((1, 0)), 0)

    def test_a_pair_off_the_board_is_refused(self):
        for lines in ((".",), ("1",), ("12.", ".21"), ("1.", ".2", "12"), ("1" * 10,) * 10):
            board = board_of(*lines)
            before = owners_of(board)
            for pair in pairs_off(board.rows(), board.columns()):
                for hand in (1, 2) + NO_HANDS:
                    self.refused(NoCell, board.put, pair, hand)
                self.refused(NoCell, board.lift, pair)
                self.refused(NoCell, board.owner, pair)
                self.assertEqual(owners_of(board), before)

    def test_rows_and_columns_are_not_taken_for_one_another(self):
        board = Board(2, 3)
        board.put((1, 2), 1)
        self.refused(NoCell, board.put, (2, 1), 1)
        self.refused(NoCell, board.lift, (2, 1))
        self.refused(NoCell, board.owner, (2, 1))
        self.assertEqual(board.owner((1, 2)), 1)

    def test_a_number_that_is_no_hand_is_refused_on_any_cell(self):
        board = board_of("12.", ".21")
        before = owners_of(board)
        for hand in NO_HANDS:
            for cell in cells_of(board):
                self.refused(NoHand, board.put, cell, hand)
            self.assertEqual(owners_of(board), before)

    def test_a_cell_that_is_taken_is_refused(self):
        board = board_of("12", "21")
        before = owners_of(board)
        for cell in cells_of(board):
            for hand in (1, 2):
                self.refused(CellTaken, board.put, cell, hand)
        self.assertEqual(owners_of(board), before)

    def test_lifting_an_empty_cell_is_refused(self):
        board = board_of("1..", "..2")
        before = owners_of(board)
        for cell in ((0, 1), (0, 2), (1, 0), (1, 1)):
            self.refused(CellEmpty, board.lift, cell)
        self.assertEqual(owners_of(board), before)
        board.lift((0, 0))
        self.refused(CellEmpty, board.lift, (0, 0))
        self.assertEqual(owners_of(board), {**before, (0, 0): 0})

    def test_two_boards_do_not_touch_one_another(self):
        one = Board(2, 2)
        other = Board(2, 2)
        one.put((0, 0), 1)
        other.put((1, 1), 2)
        self.assertEqual(list(owners_of(one).values()), [1, 0, 0, 0])
        self.assertEqual(list(owners_of(other).values()), [0, 0, 0, 2])
        other.put((0, 0), 2)
        one.lift((0, 0))
        self.assertEqual(list(owners_of(one).values()), [0, 0, 0, 0])
        self.assertEqual(list(owners_of(other).values()), [2, 0, 0, 2])


class Empties(BoardCase):
    def test_all_cells_of_an_empty_board_row_by_row(self):
        self.assertEqual(Board(2, 3).empties(), [(0, 0), (0, 1), (0, 2), (1, 0), (1, 1), (1, 2)])
        for rows, columns in SIZES:
            board = Board(rows, columns)
            self.assertEqual(board.empties(), cells_of(board))

    def test_a_part_filled_board(self):
        self.assertEqual(board_of("1.2", "..1", "212").empties(), [(0, 1), (1, 0), (1, 1)])
        for board in every_board(2, 3, (0, 1, 2)):
            self.assertEqual(board.empties(), [cell for cell, owner in owners_of(board).items() if owner == 0])

    def test_a_full_board(self):
        self.assertEqual(board_of("12", "21").empties(), [])
        self.assertEqual(board_of("2").empties(), [])

    def test_the_order_does_not_hang_on_the_order_of_turns(self):
        board = Board(2, 2)
        for cell in ((1, 1), (0, 1), (1, 0), (0, 0)):
            board.put(cell, 1)
        for cell in ((1, 0), (1, 1), (0, 0), (0, 1)):
            board.lift(cell)
        self.assertEqual(board.empties(), [(0, 0), (0, 1), (1, 0), (1, 1)])

    def test_the_list_is_a_new_one_of_tuples(self):
        board = board_of("1.", "..")
        before = owners_of(board)
        given = board.empties()
        self.assertIs(type(given), list)
        self.assertEqual({type(cell) for cell in given}, {tuple})
        given.clear()
        self.assertEqual(board.empties(), [(0, 1), (1, 0), (1, 1)])
        board.empties().append((0, 0))
        self.assertEqual(board.empties(), [(0, 1), (1, 0), (1, 1)])
        self.assertEqual(owners_of(board), before)

    def test_a_list_given_back_earlier_stays_as_it_was(self):
        board = Board(1, 2)
        given = board.empties()
        board.put((0, 0), 1)
        self.assertEqual(given, [(0, 0), (0, 1)])


class Near(BoardCase):
    def near_of(self, rows, columns, expected):
        board = Board(rows, columns)
        for cell, neighbours in expected.items():
            with self.subTest(rows=rows, columns=columns, cell=cell):
                self.assertEqual(board.near(cell), neighbours)

    def test_inner_cells(self):
        self.near_of(3, 4, {
            (1, 1): [(0, 1), (0, 2), (1, 0), (1, 2), (2, 0), (2, 1)],
            (1, 2): [(0, 2), (0, 3), (1, 1), (1, 3), (2, 1), (2, 2)],
        })
        self.near_of(10, 10, {(8, 8): [(7, 8), (7, 9), (8, 7), (8, 9), (9, 7), (9, 8)]})

    def test_edges(self):
        self.near_of(3, 4, {
            (0, 1): [(0, 0), (0, 2), (1, 0), (1, 1)],
            (2, 2): [(1, 2), (1, 3), (2, 1), (2, 3)],
            (1, 0): [(0, 0), (0, 1), (1, 1), (2, 0)],
            (1, 3): [(0, 3), (1, 2), (2, 2), (2, 3)],
        })

    def test_corners(self):
        self.near_of(3, 4, {
            (0, 0): [(0, 1), (1, 0)],
            (0, 3): [(0, 2), (1, 2), (1, 3)],
            (2, 0): [(1, 0), (1, 1), (2, 1)],
            (2, 3): [(1, 3), (2, 2)],
        })
        self.near_of(10, 10, {
            (0, 0): [(0, 1), (1, 0)],
            (0, 9): [(0, 8), (1, 8), (1, 9)],
            (9, 0): [(8, 0), (8, 1), (9, 1)],
            (9, 9): [(8, 9), (9, 8)],
        })

    def test_one_row_one_column_one_cell(self):
        self.near_of(1, 3, {(0, 0): [(0, 1)], (0, 1): [(0, 0), (0, 2)], (0, 2): [(0, 1)]})
        self.near_of(3, 1, {(0, 0): [(1, 0)], (1, 0): [(0, 0), (2, 0)], (2, 0): [(1, 0)]})
        self.near_of(1, 1, {(0, 0): []})

    def test_owners_do_not_matter(self):
        board = board_of("121", "212", "..1")
        self.assertEqual(board.near((1, 1)), [(0, 1), (0, 2), (1, 0), (1, 2), (2, 0), (2, 1)])

    def test_a_pair_off_the_board_is_refused(self):
        for rows, columns in SIZES:
            board = Board(rows, columns)
            for pair in pairs_off(rows, columns):
                self.refused(NoCell, board.near, pair)
        self.refused(NoCell, Board(2, 3).near, (2, 1))

    def test_the_list_is_a_new_one_of_tuples(self):
        board = board_of("1.", ".2")
        before = owners_of(board)
        given = board.near((0, 0))
        self.assertIs(type(given), list)
        self.assertEqual({type(cell) for cell in given}, {tuple})
        given.reverse()
        given.append((5, 5))
        self.assertEqual(board.near((0, 0)), [(0, 1), (1, 0)])
        self.assertEqual(owners_of(board), before)
        self.refused(NoCell, board.owner, (5, 5))


class Mirrored(BoardCase):
    def test_a_board_told_by_hand(self):
        turned = mirrored(board_of("12.", "..1"))
        self.assertIs(type(turned), Board)
        self.assertEqual(owners_of(turned), owners_of(board_of("2.", "1.", ".2")))

    def test_every_cell_with_every_owner(self):
        for rows, columns in ((1, 1), (1, 3), (3, 1), (2, 3), (3, 2)):
            for board in every_board(rows, columns, (0, 1, 2)):
                before = owners_of(board)
                turned = mirrored(board)
                self.assertEqual((turned.rows(), turned.columns()), (columns, rows))
                for row, column in cells_of(board):
                    self.assertEqual(turned.owner((column, row)), (0, 2, 1)[before[row, column]])
                self.assertEqual(owners_of(board), before)

    def test_twice_it_is_as_it_was(self):
        for board in every_board(2, 3, (0, 1, 2)):
            again = mirrored(mirrored(board))
            self.assertEqual((again.rows(), again.columns()), (2, 3))
            self.assertEqual(owners_of(again), owners_of(board))

    def test_the_largest_and_the_longest_boards(self):
        for rows, columns in ((10, 10), (1, 10), (10, 1), (10, 9)):
            turned = mirrored(Board(rows, columns))
            self.assertEqual((turned.rows(), turned.columns()), (columns, rows))
            self.assertEqual(turned.empties(), cells_of(turned))

    def test_the_two_boards_do_not_touch_one_another(self):
        for board in (board_of("1.", "2."), board_of("1.2", "2.1")):
            turned = mirrored(board)
            before = owners_of(turned)
            board.lift((0, 0))
            board.put((1, 1), 2)
            self.assertEqual(owners_of(turned), before)
            before = owners_of(board)
            turned.lift((0, 0))
            turned.put((1, 0), 1)
            self.assertEqual(owners_of(board), before)


if __name__ == "__main__":
    unittest.main()
