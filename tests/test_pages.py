import unittest

from mingleway.board import Board
from mingleway.errors import BadText, NothingLeft
from mingleway.pages import page, read_page

DEEDS = [
    ("house", "s"), ("house", "a"), ("house", "x"), ("line", "s", "a", 1), ("line", "s", "x", 4), ("line", "a", "x", 2),
    ("source", "s"), ("hear", "x"), ("hear", "a"), ("deafen", "a"), ("letters", 1), ("lose", (2,)), ("lose", (1, 3)),
    ("spare", (2,)), ("size", 9), ("house", "gone"), ("drop", "gone"), ("line", "a", "x", 1), ("cut", 4)]
ROWS = [
    "house s", "house a", "house x", "line s a 1", "line s x 4", "line a x 2", "source s", "hear x", "hear a", "deafen a",
    "letters 1", "lose 2", "lose 1+3", "spare 2", "size 9", "house gone", "drop gone", "line a x 1", "cut 4"]
TEXT = "".join(row + "\n" for row in ROWS)


def board_of(deeds):
    board = Board()
    board.do_all(deeds)
    return board


class TestPages(unittest.TestCase):
    def refused(self, row, text):
        with self.subTest(text=text):
            with self.assertRaises(BadText) as caught:
                read_page(text)
            self.assertIs(caught.exception.__class__, BadText)
            self.assertEqual(vars(caught.exception), {"row": row})

    def test_written(self):
        self.assertEqual(page(Board()), "")
        self.assertEqual(page(board=board_of(DEEDS)), TEXT)
        for many in range(len(DEEDS)):
            self.assertEqual(page(board_of(DEEDS[:many])), "".join(row + "\n" for row in ROWS[:many]))

    def test_what_was_taken_back_is_not_written(self):
        board = board_of(DEEDS)
        board.undo()
        board.undo()
        self.assertEqual(page(board), "".join(row + "\n" for row in ROWS[:-2]))
        self.assertEqual(board.redo(), DEEDS[-2])

    def test_read_back(self):
        for many in range(len(DEEDS) + 1):
            board = board_of(DEEDS[:many])
            told = read_page(text=page(board))
            self.assertIsInstance(told, Board)
            self.assertTrue(told == board)
            self.assertEqual(told.deeds(), DEEDS[:many])
            self.assertTrue(told.net() == board.net())
            self.assertEqual((told.source(), told.hearers(), told.letters(), told.losses(), told.size()),
                             (board.source(), board.hearers(), board.letters(), board.losses(), board.size()))
            self.assertRaises(NothingLeft, told.redo)
            self.assertIs(told.busy(), False)
            if many:
                self.assertEqual(told.undo(), DEEDS[many - 1])

    def test_nothing_to_do_again_and_no_plan(self):
        board = board_of(DEEDS)
        board.plan()
        board.do(("house", "z"))
        board.undo()
        before = board.planned().mixers()
        told = read_page(page(board))
        self.assertIsNone(told.planned())
        self.assertRaises(NothingLeft, told.redo)
        self.assertEqual((board.planned().mixers(), board.redo()), (before, ("house", "z")))
        self.assertTrue(told.plan().good())

    def test_a_board_of_its_own(self):
        board = board_of(DEEDS)
        told = read_page(page(board))
        told.do(("house", "z"))
        self.assertEqual(board.deeds(), DEEDS)
        self.assertFalse(read_page(TEXT) is read_page(TEXT))

    def test_a_row_that_writes_no_deed(self):
        for bad in ("", " ", "undo", "house", "house  s", "house s ", " house s", "HOUSE s", "line s a", "line s a 01",
                    "lose ", "lose 1+", "letters -1", "letters 1000000", "cut 0000004", "plan", "home s", "house s x"):
            self.refused(0, bad + "\n")
            self.refused(len(ROWS), TEXT + bad + "\n")
            for at in (1, 7):
                self.refused(at, "".join(row + "\n" for row in ROWS[:at] + [bad] + ROWS[at:]))
        self.refused(0, TEXT.replace("\n", " "))
        self.refused(0, "\n" + TEXT)

    def test_a_row_whose_deed_is_refused(self):
        for bad in ("house a", "house A", "house toolong", "drop s", "drop k", "drop a", "line s s 1", "line s k 1",
                    "line s a 5", "line s a 0", "cut 4", "cut 1", "cut 99", "source k", "hear x", "hear k", "deafen a",
                    "letters 0", "letters 5", "lose 3+1", "lose 1+3", "lose 77", "spare 2", "size 6", "size 999999"):
            self.refused(len(ROWS), TEXT + bad + "\n")
            self.refused(len(ROWS), TEXT + bad + "\nhouse b\nnothing\n")
        self.refused(0, "source s\nhouse s\n")
        self.refused(3, "house s\nhouse a\nhouse x\nhear y\nhouse y\n")

    def test_a_line_feed_that_lacks(self):
        self.refused(len(ROWS) - 1, TEXT[:-1])
        self.refused(0, "house s")
        self.refused(0, " ")
        self.refused(1, "house s\nx")
        self.refused(1, "house s\nsource k\nx")
        self.refused(2, "house s\nsource s\nx")

    def test_rows_changed_about_and_twice(self):
        rows = list(ROWS)
        rows[2], rows[5] = rows[5], rows[2]
        self.refused(2, "".join(row + "\n" for row in rows))
        self.refused(1, "house s\nhouse s\n")
        # Deeds in another order are another board.
        told = read_page("house a\nhouse s\n")
        self.assertEqual(told.deeds(), [("house", "a"), ("house", "s")])
        self.assertEqual(read_page("").deeds(), [])

    def test_the_greatest_page(self):
        text = "house a\nhouse b\n" + "letters 3\nletters 2\n" * 900
        self.assertLessEqual(len(text), 20000)
        self.assertEqual(page(read_page(text)), text)


if __name__ == "__main__":
    unittest.main()
