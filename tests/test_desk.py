import random
import unittest

from mingleway.board import Board
from mingleway.desk import Desk
from mingleway.errors import Busy, MingleError, Missing, Short
from mingleway.least import least_size
from mingleway.texts import deed_text, plan_text, read_deed
from mingleway.ways import wide

BUTTERFLY = [f"house {name}" for name in "sabcdxy"] + [
    f"line {pair[0]} {pair[1]} 1" for pair in "sa sb ac bc cd ax dx by dy".split()]
READY = BUTTERFLY + ["source s", "hear x", "hear y"]
QUESTIONS = ["plan", "cases", "least", "wide x"]
# Nearly of a form.
NO_LINES = [
    "", " ", "\n", "what", "done", "no", "undo ", " undo", "Undo", "UNDO", "undo 1", "undo\n", "redo ", " redo", "redo x",
    "plan ", " plan", "plans", "plan x", "Plan", "plan\n", "cases ", "cases 1", " cases", "case", "cases\n", "least ",
    " least", "least 1", "Least", "leas", "wide", "wide ", "wide  x", " wide x", "wide x ", "wide x y", "Wide x", "widex",
    "wide  ", "wide\nx", "house", "house ", "house  a", "house a ", " house a", "house a b", "house\na", "house a\nb",
    "house a\n", "House a", "drop", "drop a b", "line a b", "line a b 01", "line a b 1 1", "line a b x", "line  b 1", "cut",
    "cut x", "cut 01", "cut 1000000", "cut -1", "cut 1+2", "source", "source a b", "hear", "hear a b", "deafen", "deafen ",
    "letters", "letters two", "letters 02", "letters 0000002", "lose", "lose ", "lose 1 2", "lose 1+", "lose +1", "lose 1,2",
    "spare", "spare ", "spare a", "size", "size 016", "size 16 ", "size sixteen", "board", "do house a", "deeds"]


def desk_of(lines):
    desk = Desk()
    for line in lines:
        assert desk.say(line) == "done", line
    return desk


def told(board):
    planned = board.planned()
    return board.deeds(), board.net().lines(), planned and planned.mixers()


def answer_by_the_words(board, line):
    """What a desk of this board says to a line of some form."""
    try:
        if line in ("undo", "redo"):
            return deed_text(getattr(board, line)())
        if line == "plan":
            return " / ".join(plan_text(board.plan()).splitlines())
        if line == "cases":
            return str(len(board.task().cases()))
        if line == "least":
            return str(least_size(board.task()))
        if line.startswith("wide "):
            task = board.task()
            return str(wide(task.net(), task.source(), line[5:]))
        board.do(read_deed(line))
        return "done"
    except Short as short:
        return "no short " + short.hearer
    except (MingleError, Missing, Busy) as refusal:
        return "no " + refusal.__class__.__name__.lower()


class TestDesk(unittest.TestCase):
    def says(self, desk, *pairs):
        for line, answer in pairs:
            with self.subTest(line=line):
                self.assertEqual(desk.say(line), answer)

    def test_a_board_of_its_own(self):
        desk, other = Desk(), Desk()
        self.assertIsInstance(desk.board(), Board)
        self.assertTrue(desk.board() == Board())
        self.assertIs(desk.board(), desk.board())
        desk.say("house a")
        self.assertEqual((desk.board().deeds(), other.board().deeds()), ([("house", "a")], []))
        self.assertEqual(Desk(None).board().deeds(), [])

    def test_two_desks_of_one_board(self):
        board = Board()
        desk, other = Desk(board), Desk(board=board)
        self.assertIs(desk.board(), board)
        self.assertIs(other.board(), board)
        self.says(desk, ("house a", "done"))
        self.says(other, ("house a", "no taken"), ("house b", "done"))
        self.assertEqual(board.deeds(), [("house", "a"), ("house", "b")])
        self.says(desk, ("undo", "house b"))
        self.says(other, ("redo", "house b"), ("undo", "house b"))
        board.do(("house", "c"))
        self.says(desk, ("redo", "no nothingleft"), ("undo", "house c"))

    def test_deeds(self):
        desk = Desk()
        for line in READY + ["letters 1", "lose 1+3", "spare 1+3", "lose 5", "size 9", "deafen y", "house z", "drop z",
                             "cut 9"]:
            self.assertEqual(desk.say(line=line), "done")
            self.assertEqual(desk.board().deeds()[-1], read_deed(line))
        self.assertEqual(len(desk.board()), len(READY) + 9)

    def test_refused_deeds(self):
        desk = desk_of(READY + ["lose 4+5", "house z"])
        before = told(desk.board())
        self.says(
            desk, ("house a", "no taken"), ("house A", "no badname"), ("house abcdefg", "no badname"), ("house 1", "no badname"),
            ("drop k", "no nohouse"), ("drop s", "no inuse"), ("line k a 1", "no nohouse"), ("line a a 1", "no badline"),
            ("line a b 5", "no badnumber"), ("line a b 0", "no badnumber"), ("cut 77", "no noline"), ("cut 5", "no inuse"),
            ("cut 999999", "no noline"), ("source k", "no nohouse"), ("hear x", "no taken"), ("hear k", "no nohouse"),
            ("deafen a", "no nohouse"), ("letters 0", "no badnumber"), ("letters 5", "no badnumber"), ("lose 5+4", "no badloss"),
            ("lose 4+5", "no badloss"), ("lose 77", "no noline"), ("spare 4", "no badloss"), ("size 6", "no badsize"),
            ("size 999999", "no badsize"))
        self.assertEqual(told(desk.board()), before)
        desk = desk_of(BUTTERFLY + ["hear a", "hear b", "hear c", "hear d"] + [f"house {name}" for name in "efghi"])
        self.says(desk, ("hear x", "no full"), ("house j", "no full"))
        desk = desk_of(["house a", "house b"] + ["line a b 1"] * 30)
        self.says(desk, ("line a b 1", "no full"))

    def test_undo_and_redo(self):
        desk = desk_of(READY + ["lose 4+5", "lose 6"])
        self.says(desk, ("redo", "no nothingleft"), ("undo", "lose 6"), ("undo", "lose 4+5"), ("redo", "lose 4+5"),
                  ("undo", "lose 4+5"), ("undo", "hear y"))
        self.says(desk, ("letters 3", "done"), ("redo", "no nothingleft"), ("undo", "letters 3"), ("undo", "hear x"),
                  ("undo", "source s"), ("undo", "line d y 1"))
        desk = Desk()
        self.says(desk, ("undo", "no nothingleft"), ("redo", "no nothingleft"))

    def test_plan(self):
        desk = desk_of(READY)
        self.assertIsNone(desk.board().planned())
        answer = desk.say("plan")
        self.assertEqual(answer, " / ".join(plan_text(desk.board().planned()).splitlines()))
        self.assertEqual(len(answer.split(" / ")), 9)
        self.assertEqual(desk.say("plan"), answer)
        # The plan that stands is told.
        self.says(desk, ("house z", "done"), ("line z x 1", "done"), ("plan", answer + " / 10:"))
        small = desk_of(["house s", "house x", "line s x 1", "letters 1", "source s", "hear x"])
        self.says(small, ("plan", "1: 1"))
        self.says(desk, ("lose 5", "done"), ("plan", "no short x"), ("undo", "lose 5"), ("plan", answer + " / 10:"))

    def test_cases_and_wide_and_least(self):
        desk = desk_of(READY)
        self.says(desk, ("cases", "2"), ("wide x", "2"), ("wide a", "1"), ("wide d", "1"), ("wide s", "no badhearers"),
                  ("wide k", "no nohouse"), ("wide X", "no nohouse"), ("wide a\nb", "no nohouse"), ("wide \n", "no nohouse"),
                  ("wide 1+2", "no nohouse"), ("least", "2"), ("lose 1", "done"), ("lose 2", "done"), ("cases", "6"),
                  ("wide x", "2"), ("least", "no short x"))
        desk = desk_of(["house s", "house c", "house x", "line s c 1", "line s c 1", "line c x 1", "source s", "hear x",
                        "letters 1", "lose 1", "lose 2"])
        self.says(desk, ("least", "3"), ("cases", "3"), ("wide x", "1"), ("wide c", "2"))
        self.assertEqual(desk.board().planned(), None)

    def test_short_narrow_and_heavy(self):
        desk = desk_of(READY + ["hear d"])
        self.says(desk, ("plan", "no short d"), ("least", "no short d"), ("deafen d", "done"), ("hear a", "done"),
                  ("plan", "no short a"), ("letters 1", "done"), ("size 2", "done"), ("plan", "no narrow"),
                  ("size 3", "done"), ("cases", "3"))
        self.assertTrue(desk.say("plan").startswith("1: "))
        desk = desk_of(READY + ["house z", "line a z 1", "line b z 1", "hear z"])
        self.says(desk, ("least", "no heavy"), ("cases", "3"))

    def test_boards_that_are_no_task_yet(self):
        desk = Desk()
        for line, answer in (("house s", "no nohouse"), ("house x", "no nohouse"), ("line s x 1", "no nohouse"),
                             ("letters 1", "no nohouse"), ("source s", "no badhearers"), ("hear s", "no badhearers"),
                             ("hear x", "no badhearers"), ("deafen s", None), ("line x s 1", "no ringed"),
                             ("deafen x", "no ringed"), ("cut 2", "no badhearers")):
            self.assertEqual(desk.say(line), "done")
            for question in QUESTIONS + ["wide k", "wide s", "wide \n"]:
                if answer is not None:
                    self.says(desk, (question, answer))
                else:
                    self.assertEqual(desk.say(question), {
                        "plan": "1: 1", "cases": "1", "least": "2", "wide x": "1", "wide k": "no nohouse",
                        "wide s": "no badhearers", "wide \n": "no nohouse"}[question])
        ringed = desk_of(["house a", "house b", "line a b 1", "line b a 1"])
        for question in QUESTIONS:
            self.says(ringed, (question, "no ringed"))

    def test_lines_of_no_form(self):
        for desk in (Desk(), desk_of(READY + ["house z"])):
            if len(desk.board()):
                desk.say("plan")
                desk.say("undo")
            before = told(desk.board())
            for line in NO_LINES:
                self.says(desk, (line, "what"))
            self.assertEqual(told(desk.board()), before)
            if len(desk.board()):
                self.says(desk, ("redo", "house z"))

    def test_at_random(self):
        chance = random.Random(71)
        names = list("sabcdx")
        for sample in range(40):
            desk, board = Desk(), Board()
            lines = [f"house {name}" for name in names] + ["source s", "hear x"] * (sample % 3 > 0)
            for step in range(60):
                one, other = sorted(chance.sample(range(6), 2))
                name = chance.choice(names)
                lines.append(chance.choice([
                    f"line {names[one]} {names[other]} {chance.randint(1, 5)}", f"line {name} {names[other]} 1",
                    f"line {names[one]} {names[other]} 1", f"source {name}", f"hear {name}", f"deafen {name}", f"drop {name}",
                    f"cut {chance.randint(1, 12)}", f"letters {chance.randint(0, 3)}", f"lose {chance.randint(1, 9)}",
                    f"lose {chance.randint(1, 3)}+{chance.randint(3, 9)}", f"spare {chance.randint(1, 9)}",
                    f"size {chance.choice((2, 3, 6, 16))}", "undo", "redo", "plan", "plan", "cases", "least",
                    f"wide {name}", "undo", f"house {name}x"]))
            for line in lines:
                self.assertEqual(desk.say(line), answer_by_the_words(board, line), line)
                self.assertTrue(desk.board() == board)
            self.assertEqual(told(desk.board()), told(board))


if __name__ == "__main__":
    unittest.main()
