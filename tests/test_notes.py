import unittest
from itertools import product

from sidechain.board import Board
from sidechain.errors import NoBoard
from sidechain.notes import read, shown
from tests.boards import BoardCase, board_of, cells_of, every_board, mixed_boards, owners_of

# Every sign that a text may have, but those of which boards are written.
OTHER_SIGNS = ["\t"] + [chr(number) for number in range(32, 127) if chr(number) not in ".12%"]


def text_of(board):
    """The text of the board by point [9], put together sign by sign."""
    text = ""
    for row in range(board.rows()):
        for column in range(board.columns()):
            text += {0: ".", 1: "1", 2: "2"}[board.owner((row, column))]
        text += "\n"
    return text


def is_written(text):
    """Whether a board is written so, by point [9]."""
    if text[-1:] != "\n":
        return False
    lines = text[:-1].split("\n")
    if not 1 <= len(lines) <= 10 or not 1 <= len(lines[0]) <= 10:
        return False
    return all(len(line) == len(lines[0]) and set(line) <= set(".12") for line in lines)


class NotesCase(BoardCase):
    def reads_as(self, text, board):
        again = read(text)
        self.assertIs(type(again), Board)
        self.assertEqual((again.rows(), again.columns()), (board.rows(), board.columns()))
        self.assertEqual(owners_of(again), owners_of(board))

    def no_board(self, *texts):
        for text in texts:
            with self.subTest(text=text):
                self.refused(NoBoard, read, text)


class Shown(NotesCase):
    def test_texts_told_by_hand(self):
        self.assertEqual(shown(board_of(".")), ".\n")
        self.assertEqual(shown(board_of("1")), "1\n")
        self.assertEqual(shown(board_of("2")), "2\n")
        self.assertEqual(shown(board_of("12.", ".21")), "12.\n.21\n")
        self.assertEqual(shown(board_of("1", "2", ".")), "1\n2\n.\n")
        self.assertEqual(shown(Board(2, 3)), "...\n...\n")
        self.assertEqual(shown(Board(10, 10)), "..........\n" * 10)

    def test_boards_of_every_size(self):
        for rows in range(1, 11):
            for columns in range(1, 11):
                for board in mixed_boards(2, rows, columns, (0, 1, 2)):
                    before = owners_of(board)
                    text = shown(board)
                    self.assertIs(type(text), str)
                    self.assertEqual(text, text_of(board))
                    self.assertEqual(owners_of(board), before)

    def test_a_board_that_was_changed(self):
        board = Board(2, 2)
        text = shown(board)
        board.put((1, 0), 2)
        self.assertEqual(shown(board), "..\n2.\n")
        board.put((0, 1), 1)
        self.assertEqual(shown(board), ".1\n2.\n")
        board.lift((1, 0))
        self.assertEqual(shown(board), ".1\n..\n")
        self.assertEqual(text, "..\n..\n")

    def test_arguments_have_their_names(self):
        self.assertEqual(shown(board=read(text="12\n")), "12\n")


class Read(NotesCase):
    def test_texts_told_by_hand(self):
        self.reads_as(".\n", Board(1, 1))
        self.reads_as("1\n", board_of("1"))
        self.reads_as("2\n", board_of("2"))
        self.reads_as("12.\n.21\n", board_of("12.", ".21"))
        self.reads_as("1\n2\n.\n", board_of("1", "2", "."))

    def test_ten_rows_and_ten_columns_are_read(self):
        self.reads_as("..........\n" * 10, Board(10, 10))
        self.reads_as("..........\n", Board(1, 10))
        self.reads_as(".\n" * 10, Board(10, 1))
        self.reads_as("1212121212\n" * 10, board_of(*("1212121212",) * 10))

    def test_what_was_written_is_read_again(self):
        for rows in range(1, 11):
            for columns in range(1, 11):
                for board in mixed_boards(2, rows, columns, (0, 1, 2)):
                    self.reads_as(shown(board), board)
        for board in every_board(2, 3, (0, 1, 2)):
            self.reads_as(shown(board), board)
            self.assertEqual(shown(read(text_of(board))), text_of(board))

    def test_the_two_boards_do_not_touch_one_another(self):
        board = board_of("12.", ".21")
        before = owners_of(board)
        again = read(shown(board))
        other = read(shown(board))
        for cell in cells_of(board):
            owner = again.owner(cell)
            if owner != 0:
                again.lift(cell)
            if owner != 1:
                again.put(cell, 1)
            self.assertNotEqual(again.owner(cell), owner)
        self.assertEqual(owners_of(board), before)
        self.assertEqual(owners_of(other), before)
        board.lift((0, 0))
        self.assertEqual(owners_of(other), before)

    def test_the_read_board_is_a_whole_one(self):
        board = read("1.\n.2\n")
        self.assertEqual(board.empties(), [(0, 1), (1, 0)])
        self.assertEqual(board.near((0, 0)), [(0, 1), (1, 0)])
        board.put((0, 1), 2)
        self.assertEqual(shown(board), "12\n.2\n")


class Refused(NotesCase):
    def test_no_rows(self):
        self.no_board("", "\n", "\n\n", "\n\n\n", "\n" * 10, "\n" * 11)

    def test_an_empty_line(self):
        self.no_board("\n.\n", "\n12\n21\n", "12\n\n21\n", "12\n21\n\n", "\n12\n\n21\n\n", "1\n\n2\n")

    def test_no_line_end_at_the_end(self):
        self.no_board(".", "1", "2", "12", "12\n21", "12.\n.21\n12.", "\n.", ("." * 10 + "\n") * 9 + "." * 10)

    def test_two_line_ends_at_the_end(self):
        row = "." * 10 + "\n"
        self.no_board(".\n\n", "12\n21\n\n", "12\n21\n\n\n", row * 10 + "\n", row * 9 + "\n")

    def test_rows_of_unlike_lengths(self):
        self.no_board(
            "1\n12\n", "12\n1\n", "12\n12\n1\n", "12\n1\n12\n", "1\n12\n12\n", "12\n12\n121\n",
            "..........\n" * 9 + ".........\n", "..........\n" * 9 + "...........\n", ".\n..........\n",
        )

    def test_too_many_rows_or_columns(self):
        self.no_board(
            ".\n" * 11, "..........\n" * 11, "1\n" * 12, "...........\n", "...........\n" * 10,
            "...........\n" * 11, "1" * 12 + "\n", ".\n" * 100, ".\n" * 200, "." * 399 + "\n",
            ("." * 19 + "\n") * 20, "." * 450 + "\n", ".\n" * 250,
        )

    def test_other_signs_at_any_place(self):
        for text in (".\n", "12.\n.21\n", "1\n2\n", "12\n"):
            for place in range(len(text) + 1):
                for sign in OTHER_SIGNS:
                    self.refused(NoBoard, read, text[:place] + sign + text[place:])
                    self.refused(NoBoard, read, text[:place] + sign + text[place + 1:])
        for place in range(110):
            text = "1.2.1.2.1.\n" * 10
            for sign in (" ", "\t", "0", "3", "x"):
                self.refused(NoBoard, read, text[:place] + sign + text[place + 1:])

    def test_other_signs_alone(self):
        for sign in OTHER_SIGNS:
            self.no_board(sign, sign + "\n", sign + "\n" + sign + "\n", sign * 3 + "\n")
        self.no_board("1 2\n", " 12\n", "12 \n", "12\n \n", "12\n 1\n", "-1\n", "+1\n", "1.0\n", "12,\n", "O\n", "l\n")

    def test_every_short_text(self):
        for length in range(7):
            for signs in product(".2\n3", repeat=length):
                text = "".join(signs)
                if is_written(text):
                    self.assertEqual(shown(read(text)), text)
                else:
                    self.refused(NoBoard, read, text)

    def test_every_number_of_rows_and_columns(self):
        for rows in range(13):
            for columns in range(13):
                text = ("1" * columns + "\n") * rows
                if 1 <= rows <= 10 and 1 <= columns <= 10:
                    self.assertEqual(shown(read(text)), text)
                else:
                    self.refused(NoBoard, read, text)


if __name__ == "__main__":
    unittest.main()
