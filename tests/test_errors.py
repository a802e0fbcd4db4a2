import unittest

from sidechain.errors import BoardError, CellEmpty, CellTaken, NoBoard, NoCell, NoHand

REFUSALS = (NoBoard, NoCell, NoHand, CellTaken, CellEmpty)


class Errors(unittest.TestCase):
    def test_any_refusal_is_a_value_error(self):
        self.assertTrue(issubclass(BoardError, ValueError))

    def test_each_refusal_is_a_board_error_and_a_value_error(self):
        for refusal in REFUSALS:
            with self.subTest(refusal=refusal):
                self.assertTrue(issubclass(refusal, BoardError))
                self.assertTrue(issubclass(refusal, ValueError))
                self.assertIsNot(refusal, BoardError)

    def test_none_of_the_five_is_under_another_one(self):
        for one in REFUSALS:
            for other in REFUSALS:
                with self.subTest(one=one, other=other):
                    self.assertEqual(issubclass(one, other), REFUSALS.index(one) == REFUSALS.index(other))


if __name__ == "__main__":
    unittest.main()
