import unittest
from itertools import combinations

from sidechain.board import Board, mirrored
from sidechain.errors import NoHand
from sidechain.needs import need
from tests.boards import (
    BoardCase, LockedBoard, NO_HANDS, STEPS, WINDING, board_of, cells_of, every_board, faults_of_chain,
    has_joined, mixed_boards, on_first, on_last, owners_of,
)

SMALL = ((1, 1), (1, 2), (2, 1), (1, 4), (4, 1), (2, 2), (2, 3), (3, 2))
LARGE = ((10, 10), (4, 7), (7, 4), (10, 3), (2, 10), (1, 10), (10, 1))
MIXES = ((0, 1, 2), (0, 0, 0, 1, 2), (0, 1, 1), (0, 2, 2), (0, 1), (0, 2), (0, 1, 2, 1, 2), (1, 2))
# Hand 2 leaves hand 1 one winding way alone.
MAZE = tuple(line.replace(".", "2").replace("1", ".") for line in WINDING)


def empties_in(board, cells):
    return [cell for cell in cells if board.owner(cell) == 0]


def with_cells(board, cells, hand):
    """A new board like this one, with these cells put to the hand."""
    more = Board(board.rows(), board.columns())
    for cell, owner in owners_of(board).items():
        if cell in cells:
            more.put(cell, hand)
        elif owner != 0:
            more.put(cell, owner)
    return more


def least_by_trying(board, hand):
    """How few empty cells, put to the hand, join it; None where not even all do."""
    empty = empties_in(board, cells_of(board))
    for number in range(len(empty) + 1):
        for cells in combinations(empty, number):
            if has_joined(with_cells(board, cells, hand), hand):
                return number
    return None


def least_by_sweeps(board, hand):
    """The same number, by sweeps over all cells until no way gets better."""
    owners = owners_of(board)
    least = {}
    before = None
    while least != before:
        before = dict(least)
        for (row, column), owner in owners.items():
            if owner == 3 - hand:
                continue
            ways = [least[row + a, column + b] for a, b in STEPS if (row + a, column + b) in least]
            if on_first(board, hand, (row, column)):
                ways.append(0)
            if ways:
                least[row, column] = min(ways) + (1 if owner == 0 else 0)
    return min((least[cell] for cell in least if on_last(board, hand, cell)), default=None)


class NeedCase(BoardCase):
    def told(self, board, hand):
        """What is told, with every part of it checked: the number, or None for shut."""
        before = owners_of(board)
        answer = need(board, hand)
        self.assertEqual(owners_of(board), before)
        self.assertIs(type(answer), tuple)
        if answer[0] == "shut":
            self.check_shut(board, hand, answer)
            return None
        self.check_need(board, hand, answer)
        return answer[1]

    def check_shut(self, board, hand, answer):
        self.assertEqual(len(answer), 2)
        self.assertEqual(faults_of_chain(board, 3 - hand, answer[1]), [])

    def check_need(self, board, hand, answer):
        self.assertEqual(answer[0], "need")
        self.assertEqual(len(answer), 4)
        number, bridge, belts = answer[1:]
        self.assertIs(type(number), int)
        self.assertEqual(faults_of_chain(board, hand, bridge, empty_too=True), [])
        self.assertEqual(len(empties_in(board, bridge)), number)
        self.assertIs(type(belts), list)
        self.assertEqual(len(belts), number)
        seen = []
        for belt in belts:
            self.assertEqual(faults_of_chain(board, 3 - hand, belt, empty_too=True), [])
            self.assertTrue(set(empties_in(board, belt)) & set(empties_in(board, bridge)))
            seen.extend(empties_in(board, belt))
        self.assertEqual(len(set(seen)), len(seen))


class Need(NeedCase):
    def test_where_only_one_answer_can_be(self):
        self.assertEqual(need(board_of("1.1"), 1), ("need", 1, [(0, 0), (0, 1), (0, 2)], [[(0, 1)]]))
        self.assertEqual(need(board_of("2", ".", "2"), 2), ("need", 1, [(0, 0), (1, 0), (2, 0)], [[(1, 0)]]))
        self.assertEqual(need(board_of("12", ".2"), 2), ("need", 0, [(0, 1), (1, 1)], []))
        self.assertEqual(need(board_of("12", ".2"), 1), ("shut", [(0, 1), (1, 1)]))
        self.assertEqual(need(board_of("2.", "2."), 2), ("need", 0, [(0, 0), (1, 0)], []))

    def test_numbers_told_by_hand(self):
        self.assertEqual(self.told(board_of("...", "...", "..."), 1), 3)
        self.assertEqual(self.told(board_of(".22", "22.", "..."), 1), 3)
        self.assertEqual(self.told(board_of(".22", "22.", "..."), 2), 1)
        self.assertEqual(self.told(board_of("1..1", "2..2"), 1), 2)
        self.assertEqual(self.told(board_of("1..1", "2..2"), 2), 1)
        self.assertEqual(self.told(board_of(".1", "1."), 1), 0)
        self.assertIsNone(self.told(board_of(".1", "1."), 2))
        self.assertEqual(self.told(board_of("1.", ".1"), 1), 1)
        self.assertEqual(self.told(board_of("1.", ".1"), 2), 2)

    def test_own_cells_far_off_are_worth_a_longer_way(self):
        # Straight on three cells are empty, round about only one.
        around = board_of("1...1", "12221", "12221", "11.11")
        self.assertEqual(self.told(around, 1), 1)
        self.assertEqual(self.told(mirrored(around), 2), 1)

    def test_one_cell(self):
        for hand in (1, 2):
            self.assertEqual(need(board_of("."), hand), ("need", 1, [(0, 0)], [[(0, 0)]]))
            self.assertEqual(need(board_of(str(hand)), hand), ("need", 0, [(0, 0)], []))
            self.assertEqual(need(board_of(str(3 - hand)), hand), ("shut", [(0, 0)]))

    def test_one_row_and_one_column(self):
        for length in range(1, 11):
            row = Board(1, length)
            column = Board(length, 1)
            self.assertEqual(self.told(row, 1), length)
            self.assertEqual(self.told(row, 2), 1)
            self.assertEqual(self.told(column, 2), length)
            self.assertEqual(self.told(column, 1), 1)
            for place in range(length):
                row.put((0, place), 1)
                column.put((place, 0), 2)
                self.assertEqual(self.told(row, 1), length - 1 - place)
                self.assertEqual(self.told(column, 2), length - 1 - place)
                last = place == length - 1
                self.assertEqual(self.told(row, 2), None if last else 1)
                self.assertEqual(self.told(column, 1), None if last else 1)
            row.lift((0, 0))
            row.put((0, 0), 2)
            self.assertIsNone(self.told(row, 1))
            self.assertEqual(self.told(row, 2), 0)

    def test_empty_boards_of_every_size(self):
        for rows in range(1, 11):
            for columns in range(1, 11):
                self.assertEqual(self.told(Board(rows, columns), 1), columns)
                self.assertEqual(self.told(Board(rows, columns), 2), rows)

    def test_boards_of_one_hand_alone(self):
        for rows, columns in LARGE:
            for hand in (1, 2):
                board = board_of(*(str(hand) * columns,) * rows)
                self.assertEqual(self.told(board, hand), 0)
                self.assertIsNone(self.told(board, 3 - hand))

    def test_every_small_board_against_trying(self):
        for rows, columns in SMALL:
            for board in every_board(rows, columns, (0, 1, 2)):
                for hand in (1, 2):
                    self.assertEqual(self.told(board, hand), least_by_trying(board, hand))

    def test_mixed_three_by_three_against_trying(self):
        for mix in ((0, 1, 2), (0, 0, 1, 2), (0, 0, 1), (0, 0, 2)):
            for board in mixed_boards(60, 3, 3, mix):
                for hand in (1, 2):
                    self.assertEqual(self.told(board, hand), least_by_trying(board, hand))

    def test_mixed_boards_against_sweeps(self):
        for rows, columns in LARGE:
            for mix in MIXES:
                for board in mixed_boards(6, rows, columns, mix):
                    for hand in (1, 2):
                        self.assertEqual(self.told(board, hand), least_by_sweeps(board, hand))

    def test_a_winding_way(self):
        maze = board_of(*MAZE)
        number = self.told(maze, 1)
        self.assertEqual(number, least_by_sweeps(maze, 1))
        self.assertGreater(number, 40)
        self.assertEqual(self.told(maze, 2), 1)
        self.assertEqual(self.told(board_of(*WINDING), 1), 0)
        self.assertIsNone(self.told(board_of(*WINDING), 2))
        for cell in ((9, 1), (5, 2), (0, 3), (9, 9)):
            shut = with_cells(maze, [cell], 2)
            self.assertIsNone(self.told(shut, 1))
            self.assertEqual(self.told(shut, 2), 0)

    def test_shut_just_where_the_other_hand_has_joined(self):
        for rows, columns in SMALL:
            for board in every_board(rows, columns, (0, 1, 2)):
                for hand in (1, 2):
                    self.assertEqual(need(board, hand)[0] == "shut", has_joined(board, 3 - hand))

    def test_nought_just_where_the_hand_has_joined(self):
        for rows, columns in SMALL:
            for board in every_board(rows, columns, (0, 1, 2)):
                for hand in (1, 2):
                    self.assertEqual(self.told(board, hand) == 0, has_joined(board, hand))

    def test_full_boards(self):
        for rows, columns in LARGE:
            for board in mixed_boards(20, rows, columns, (1, 2)):
                self.assertEqual({self.told(board, 1), self.told(board, 2)}, {0, None})

    def test_a_number_that_is_no_hand_is_refused(self):
        for board in (Board(1, 1), board_of("12.", ".21"), board_of("11", "22"), Board(10, 10)):
            before = owners_of(board)
            for hand in NO_HANDS:
                self.refused(NoHand, need, board, hand)
            self.assertEqual(owners_of(board), before)

    def test_arguments_have_their_names(self):
        self.assertEqual(need(board=board_of("1"), hand=1), ("need", 0, [(0, 0)], []))


class CellsPut(NeedCase):
    def boards(self):
        for rows, columns in ((2, 2), (2, 3)):
            yield from every_board(rows, columns, (0, 1, 2))
        for mix in MIXES[:5]:
            yield from mixed_boards(2, 5, 6, mix)
        yield board_of(*MAZE)

    def test_with_the_empty_cells_of_the_bridge_nought_is_needed(self):
        for board in self.boards():
            for hand in (1, 2):
                if self.told(board, hand) is not None:
                    bridge = need(board, hand)[2]
                    joined = with_cells(board, empties_in(board, bridge), hand)
                    self.assertEqual(self.told(joined, hand), 0)
                    self.assertEqual(faults_of_chain(joined, hand, bridge), [])

    def test_one_cell_put_to_either_hand(self):
        for board in self.boards():
            for hand in (1, 2):
                number = self.told(board, hand)
                for cell in empties_in(board, cells_of(board)):
                    less = self.told(with_cells(board, [cell], hand), hand)
                    more = self.told(with_cells(board, [cell], 3 - hand), hand)
                    if number is None:
                        self.assertEqual((less, more), (None, None))
                    else:
                        self.assertIn(less, (number, number - 1))
                        self.assertTrue(more is None or more >= number)


class MirroredNeeds(NeedCase):
    def test_the_other_hand_needs_as_many_on_the_mirrored_board(self):
        for rows, columns in SMALL:
            for board in every_board(rows, columns, (0, 1, 2)):
                self.mirrors(board)
        for rows, columns in LARGE:
            for mix in MIXES:
                for board in mixed_boards(2, rows, columns, mix):
                    self.mirrors(board)
        self.mirrors(board_of(*MAZE))

    def mirrors(self, board):
        turned = mirrored(board)
        for hand in (1, 2):
            self.assertEqual(self.told(board, hand), self.told(turned, 3 - hand))


class NothingHangsOnIt(NeedCase):
    def test_changing_what_was_given_back_changes_nothing(self):
        for lines in (("1..", ".2.", "..1"), ("...", "...")):
            for hand in (1, 2):
                board = board_of(*lines)
                before = owners_of(board)
                first = need(board, hand)
                again = need(board, hand)
                kept = ("need", again[1], list(again[2]), [list(belt) for belt in again[3]])
                for belt in first[3]:
                    belt.reverse()
                    belt.append((7, 7))
                first[2].clear()
                first[3].pop()
                self.assertEqual(again, kept)
                self.assertEqual(need(board, hand), kept)
                self.assertEqual(owners_of(board), before)
                self.told(board, hand)

    def test_the_board_is_not_touched_even_for_a_while(self):
        for board in mixed_boards(10, 4, 4, (0, 1, 2)):
            for hand in (1, 2):
                self.assertEqual(need(LockedBoard(board), hand), need(board, hand))

    def test_changing_a_list_does_not_change_another_one(self):
        board = Board(3, 3)
        answer = need(board, 1)
        lists = [answer[2], answer[3]] + answer[3]
        self.assertEqual(len({id(one) for one in lists}), len(lists))

    def test_changing_the_chain_of_a_shut_hand_changes_nothing(self):
        board = board_of("22", ".2")
        need(board, 1)[1].clear()
        self.assertIsNone(self.told(board, 1))
        self.assertEqual(owners_of(board), owners_of(board_of("22", ".2")))

    def test_changing_the_board_later_does_not_change_what_was_told(self):
        board = Board(2, 2)
        answer = need(board, 1)
        kept = ("need", answer[1], list(answer[2]), [list(belt) for belt in answer[3]])
        board.put((0, 0), 2)
        board.put((1, 0), 2)
        self.assertEqual(answer, kept)
        self.assertIsNone(self.told(board, 1))


if __name__ == "__main__":
    unittest.main()
