"""The desk: a board that is led by lines of text."""

from mingleway.board import Board
from mingleway.errors import (
    BadHearers, BadLine, BadLoss, BadName, BadNumber, BadSize, BadText, Full, Heavy, InUse, Narrow, NoHouse, NoLine,
    NothingLeft, Ringed, Short, Taken)
from mingleway.least import least_size
from mingleway.texts import deed_text, plan_text, read_deed
from mingleway.ways import wide

WIDE = "wide "
UNKNOWN = "what"


def is_wide(line):
    name = line[len(WIDE):]
    return line.startswith(WIDE) and name != "" and " " not in name


class Desk:
    """Answers lines."""

    def __init__(self, board=None):
        self.own_board = Board() if board is None else board

    def board(self):
        return self.own_board

    def say(self, line):
        # An error can not be asked here for its class's name, so each one has its own answer.
        try:
            return self.answer_to(line)
        except Short as short:
            return f"no short {short.hearer}"
        except BadHearers:
            return "no badhearers"
        except BadLine:
            return "no badline"
        except BadLoss:
            return "no badloss"
        except BadName:
            return "no badname"
        except BadNumber:
            return "no badnumber"
        except BadSize:
            return "no badsize"
        except Full:
            return "no full"
        except Heavy:
            return "no heavy"
        except InUse:
            return "no inuse"
        except Narrow:
            return "no narrow"
        except NoHouse:
            return "no nohouse"
        except NoLine:
            return "no noline"
        except NothingLeft:
            return "no nothingleft"
        except Ringed:
            return "no ringed"
        except Taken:
            return "no taken"

    def answer_to(self, line):
        if line == "undo":
            return deed_text(self.own_board.undo())
        if line == "redo":
            return deed_text(self.own_board.redo())
        if line == "plan":
            return plan_text(self.own_board.plan())[:-1].replace("\n", " / ")
        if line == "cases":
            return str(len(self.own_board.task().cases()))
        if line == "least":
            return str(least_size(self.own_board.task()))
        if is_wide(line):
            return str(self.widest(line[len(WIDE):]))
        return self.do_line(line)

    def widest(self, name):
        task = self.own_board.task()
        return wide(task.net(), task.source(), name)

    def do_line(self, line):
        try:
            deed = read_deed(line)
        except BadText:
            return UNKNOWN
        self.own_board.do(deed)
        return "done"
