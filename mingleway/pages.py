"""Pages: boards written as the deeds that stand, and read."""

from mingleway.board import Board
from mingleway.texts import deed_text, read_deed, read_rows


def page(board):
    return "".join([deed_text(deed) + "\n" for deed in board.deeds()])


def read_page(text):
    board = Board()
    read_rows(text, lambda row: board.do(read_deed(row)))
    return board
