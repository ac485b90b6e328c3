import copy
import random
import unittest

import helper
from mingleway.board import Board
from mingleway.errors import (
    BadDeed, BadHearers, BadLine, BadLoss, BadName, BadNumber, BadSize, Full, InUse, Narrow, NoHouse, NoLine, NothingLeft,
    Ringed, Short, Taken)
from mingleway.nets import Net
from mingleway.plans import Plan
from mingleway.tasks import Task

BUTTERFLY = [("house", name) for name in "sabcdxy"] + [
    ("line", pair[0], pair[1], 1) for pair in "sa sb ac bc cd ax dx by dy".split()]
READY = BUTTERFLY + [("source", "s"), ("hear", "x"), ("hear", "y")]
NO_DEEDS = [
    (), ("",), ("home", "a"), ("House", "a"), ("house",), ("house", "a", "b"), ("drop",), ("drop", "a", "b"),
    ("line", "a", "b"), ("line", "a", "b", 1, 1), ("line",), ("cut",), ("cut", 1, 2), ("source",), ("source", "a", "b"),
    ("hear",), ("hear", "a", "b"), ("deafen",), ("deafen", "a", "b"), ("letters",), ("letters", 1, 2), ("lose",),
    ("lose", 1, 2), ("lose", (1,), (2,)), ("spare",), ("spare", (1,), (2,)), ("size",), ("size", 2, 3), ("undo",),
    ("plan",), ("house ", "a"), ("a", "house"), (1, 2), (None,), (3,), ("do", ("house", "a"))]


def board_of(deeds):
    board = Board()
    for deed in deeds:
        board.do(deed)
    return board


def told(board):
    planned = board.planned()
    return (board.deeds(), len(board), board.net().houses(), board.net().lines(), board.source(), board.hearers(),
            board.letters(), board.losses(), board.size(), board.busy(), planned and planned.mixers())


class BoardCase(helper.RefusalCase):
    def refuses(self, board, deed, error, **fields):
        """The deed is refused, by do and by do_all, and all stands as it stood."""
        before = told(board)
        self.refused(error, lambda: board.do(deed), **fields)
        self.refused(error, lambda: board.do_all([deed]), **fields)
        self.assertEqual(told(board), before)


class Model:
    """What a board has, turned by deeds as the document tells them."""

    def __init__(self):
        self.houses, self.lines, self.source, self.hearers, self.letters = set(), {}, None, [], 2
        self.losses, self.size, self.mixers = [], 16, None

    def refusal(self, deed):
        """The refusal that is due, with its fields, or None."""
        return getattr(self, "refusal_" + deed[0])(*deed[1:])

    def refusal_house(self, name):
        if not (1 <= len(name) <= 6 and set(name) <= set("abcdefghijklmnopqrstuvwxyz")):
            return BadName, {}
        return (Taken, {}) if name in self.houses else (Full, {}) if len(self.houses) == 12 else None

    def refusal_drop(self, name):
        if name not in self.houses:
            return NoHouse, {"name": name}
        numbers = [number for number, line in self.lines.items() if name in line[:2]]
        if numbers or name == self.source or name in self.hearers:
            return InUse, {"number": min(numbers, default=0)}

    def refusal_line(self, one, other, slow):
        for name in (one, other):
            if name not in self.houses:
                return NoHouse, {"name": name}
        if one == other:
            return BadLine, {}
        if not 1 <= slow <= 4 or max(self.lines, default=0) == 99:
            return BadNumber, {}
        return (Full, {}) if len(self.lines) == 30 else None

    def refusal_cut(self, number):
        if number not in self.lines:
            return NoLine, {"number": number}
        return (InUse, {"number": number}) if any(number in loss for loss in self.losses) else None

    def refusal_source(self, name):
        return None if name in self.houses else (NoHouse, {"name": name})

    def refusal_hear(self, name):
        if name not in self.houses:
            return NoHouse, {"name": name}
        return (Taken, {}) if name in self.hearers else (Full, {}) if len(self.hearers) == 4 else None

    def refusal_deafen(self, name):
        return None if name in self.hearers else (NoHouse, {"name": name})

    def refusal_letters(self, many):
        return None if 1 <= many <= 4 else (BadNumber, {})

    def refusal_lose(self, lines):
        if len(self.losses) == 3 or list(lines) != sorted(set(lines)) or lines in self.losses or not lines:
            return BadLoss, {}
        return next(((NoLine, {"number": number}) for number in lines if number not in self.lines), None)

    def refusal_spare(self, lines):
        return None if lines in self.losses else (BadLoss, {})

    def refusal_size(self, size):
        return None if size in helper.SIZES else (BadSize, {})

    def behind(self, deed):
        other = copy.deepcopy(self)
        first, things = deed[0], deed[1:]
        if first == "house":
            other.houses.add(things[0])
        elif first == "drop":
            other.houses.remove(things[0])
        elif first == "line":
            other.lines[max(self.lines, default=0) + 1] = things
        elif first == "cut":
            del other.lines[things[0]]
        elif first == "hear":
            other.hearers.append(things[0])
        elif first == "deafen":
            other.hearers.remove(things[0])
        elif first == "lose":
            other.losses.append(things[0])
        elif first == "spare":
            other.losses.remove(things[0])
        else:
            setattr(other, first, things[0])
        other.mixers = None if self.mixers is None or first in ("source", "size") else self.fitted(other)
        return other

    def into(self, house):
        return sorted(number for number, line in self.lines.items() if line[1] == house)

    def task_refusal(self):
        left = set(self.houses)
        while any(not any(line[1] == house and line[0] in left for line in self.lines.values()) for house in left):
            left = {house for house in left
                    if any(line[1] == house and line[0] in left for line in self.lines.values())}
        if left:
            return Ringed
        if self.source is None:
            return NoHouse
        return BadHearers if not self.hearers or self.source in self.hearers else None

    def fitted(self, other):
        if other.task_refusal():
            return None
        mixers = {}
        for number, (one, _, _) in other.lines.items():
            had = self.mixers.get(number)
            if one == other.source:
                mixers[number] = tuple((*(had or ()), 0, 0, 0, 0)[:other.letters])
            else:
                by_line = dict(zip(self.into(one), had or ()))
                mixers[number] = tuple(by_line.get(line, 0) for line in other.into(one))
        return mixers if other.good(mixers) else None

    def good(self, mixers):
        lines = [(number, *line) for number, line in self.lines.items()]
        for loss in [(), *self.losses]:
            heads = helper.heads(self.size, self.letters, self.source, lines, mixers, loss)
            for hearer in self.hearers:
                if helper.rank(self.size, [heads[number] for number in self.into(hearer)]) < self.letters:
                    return False
        return True

    def short(self):
        lines = [(number, *line) for number, line in self.lines.items()]
        return any(helper.least_breadth(sorted(self.houses), lines, self.source, hearer, loss) < self.letters
                   for hearer in self.hearers for loss in [(), *self.losses])

    def told(self, deeds):
        return (deeds, len(deeds), sorted(self.houses), [(number, *self.lines[number]) for number in sorted(self.lines)],
                self.source, self.hearers, self.letters, self.losses, self.size, False, self.mixers)


def sample_deed(chance, model):
    """A deed that is mostly right."""
    houses, numbers = sorted(model.houses) or ["a"], sorted(model.lines) or [1]
    wild = chance.randrange(8) == 0
    name = chance.choice(["", "q", "Q", "toolong", "k1", *"sabcdefghijklm"]) if wild else chance.choice(houses)
    number = chance.choice([0, 1, 77, -1, helper.LONG]) if wild else chance.choice(numbers)
    some = tuple(chance.sample(numbers, min(len(numbers), chance.choice((1, 1, 2)))))
    lines = chance.choice([(), (77,), some + some, (2, 1), (1, 2, 77), some]) if wild else tuple(sorted(some))
    loss = chance.choice(model.losses) if model.losses and not wild else lines
    order = sorted(model.houses)
    one, other = chance.sample(order, 2) if len(order) > 1 else ("a", "b")
    if chance.randrange(9) and one > other:
        one, other = other, one
    deeds = [("house", chance.choice("abcdefgs") if not wild else name), ("drop", name), ("cut", number), ("source", name),
             ("hear", name), ("deafen", chance.choice(model.hearers or [name]) if not wild else name),
             ("letters", chance.choice((1, 2, 2, 3, 0, 5) if wild else (1, 2))), ("lose", lines), ("spare", loss),
             ("size", chance.choice((2, 3, 16, 16, 6, helper.LONG) if wild else (2, 5, 16)))]
    line = ("line", one if not wild else name, other, chance.choice((0, 1, 2, 5)) if wild else chance.randint(1, 4))
    # A deed behind which no plan stands is the rarer.
    return chance.choice(deeds * 2 + [line] * 9 + [deed for deed in deeds if deed[0] not in ("source", "size")] * 4)


class TestAgainstTheWords(BoardCase):
    def lead(self, chance, board, model, done, undone):
        """A step of the board and of what is noted of it; the new notes."""
        step = chance.choice(("do",) * 12 + ("undo", "undo", "redo", "redo", "plan", "plan", "plan"))
        if step == "do":
            deed = sample_deed(chance, model)
            due = model.refusal(deed)
            if due:
                self.met.add((deed[0], due[0]))
                self.refuses(board, deed, due[0], **due[1])
                return model, done, undone
            self.assertIsNone(board.do(deed))
            self.met.add((deed[0], model.mixers is not None, model.behind(deed).mixers is not None))
            return model.behind(deed), done + [(deed, model)], []
        if step == "plan":
            return self.plan(board, model), done, undone
        given, taken = (done, undone) if step == "undo" else (undone, done)
        if not given:
            self.refused(NothingLeft, getattr(board, step))
            return model, done, undone
        deed, other = given[-1]
        self.assertEqual(getattr(board, step)(), deed)
        given, taken = given[:-1], taken + [(deed, model)]
        return (other, given, taken) if step == "undo" else (other, taken, given)

    def plan(self, board, model):
        """Asks for the plan; whichever it is, the model has it then."""
        due = model.task_refusal() or (Short if model.mixers is None and model.short() else None)
        if due is None and model.mixers is None and model.size < len(model.hearers) * (1 + len(model.losses)):
            due = Narrow
        if due:
            self.assertRaises(due, board.plan)
            self.met.add(due)
            return model
        plan = board.plan()
        self.assertIsInstance(plan, Plan)
        self.assertTrue(plan == board.planned() and plan.task() == board.task())
        self.assertTrue(model.good(plan.mixers()))
        if model.mixers is not None:
            self.assertEqual(plan.mixers(), model.mixers)
        other = copy.deepcopy(model)
        other.mixers = plan.mixers()
        return other

    def test_all_steps(self):
        self.met = set()
        chance = random.Random(61)
        for sample in range(150):
            board, model, done, undone = Board(), Model(), [], []
            for deed in (READY + [("letters", 1 + sample % 3)] if sample % 4 else [("house", name) for name in "sabx"]):
                board.do(deed)
                done, model = done + [(deed, model)], model.behind(deed)
            for step in range(30):
                model, done, undone = self.lead(chance, board, model, done, undone)
                self.assertEqual(told(board), model.told([deed for deed, _ in done]))
                due = model.task_refusal()
                if due:
                    self.assertRaises(due, board.task)
                else:
                    self.assertTrue(board.task() == Task(board.net(), board.source(), board.hearers(), size=board.size(),
                                                         letters=board.letters(), losses=board.losses()))
        for wanted in ("house", "line", "cut", "hear", "deafen", "letters", "lose", "spare"):
            self.assertIn((wanted, True, True), self.met)
        for wanted in ("source", "size", "line", "cut", "hear", "deafen", "letters", "lose"):
            self.assertIn((wanted, True, False), self.met)
        self.assertLessEqual({Short, Narrow, Ringed, BadHearers}, self.met)


class TestDeeds(BoardCase):
    def test_at_first(self):
        board = Board()
        self.assertEqual(told(board), ([], 0, [], [], None, [], 2, [], 16, False, None))
        self.assertIsInstance(board.net(), Net)
        self.refused(NoHouse, board.task, name="")
        self.refused(NoHouse, board.plan, name="")
        self.refused(NothingLeft, board.undo)
        self.refused(NothingLeft, board.redo)

    def test_each_deed_done(self):
        board = board_of(READY + [("letters", 3), ("lose", (1, 4)), ("lose", (9,)), ("size", 9), ("house", "zz"),
                                  ("line", "zz", "x", 4), ("cut", 5), ("deafen", "x"), ("hear", "d"), ("spare", (1, 4)),
                                  ("house", "gone"), ("drop", "gone"), ("line", "x", "s", 2)])
        self.assertEqual(board.net().houses(), ["a", "b", "c", "d", "s", "x", "y", "zz"])
        self.assertEqual(board.net().lines(), [
            (1, "s", "a", 1), (2, "s", "b", 1), (3, "a", "c", 1), (4, "b", "c", 1), (6, "a", "x", 1), (7, "d", "x", 1),
            (8, "b", "y", 1), (9, "d", "y", 1), (10, "zz", "x", 4), (11, "x", "s", 2)])
        self.assertEqual((board.source(), board.hearers(), board.letters(), board.losses(), board.size()),
                         ("s", ["y", "d"], 3, [(9,)], 9))
        self.assertEqual(len(board), 32)
        with self.assertRaises(Ringed) as caught:
            board.task()
        self.assertEqual(sorted(caught.exception.around), [1, 6, 11])

    def test_no_deeds(self):
        for board in (Board(), board_of(READY)):
            for deed in NO_DEEDS:
                with self.subTest(deed=deed):
                    self.refuses(board, deed, BadDeed)

    def test_house(self):
        board = board_of([("house", "a")])
        for name in ("", "A", "abcdefg", "a1", "a b", "a\n"):
            self.refuses(board, ("house", name), BadName)
        self.refuses(board, ("house", "a"), Taken)
        for name in "bcdefghijkl":
            board.do(("house", name))
        self.refuses(board, ("house", "m"), Full)
        self.refuses(board, ("house", "l"), Taken)
        self.refuses(board, ("house", "M"), BadName)
        board.do(("drop", "b"))
        board.do(("house", "m"))
        self.assertEqual("".join(board.net().houses()), "acdefghijklm")

    def test_drop(self):
        board = board_of(READY)
        for name in ("k", "", "S"):
            self.refuses(board, ("drop", name), NoHouse, name=name)
        for name, number in (("s", 1), ("a", 1), ("b", 2), ("d", 5), ("x", 6), ("y", 8)):
            self.refuses(board, ("drop", name), InUse, number=number)
        board = board_of([("house", name) for name in "sxyz"] + [("source", "s"), ("hear", "x"), ("hear", "s")])
        for name in "sx":
            self.refuses(board, ("drop", name), InUse, number=0)
        board.do(("source", "y"))
        self.refuses(board, ("drop", "s"), InUse, number=0)
        self.refuses(board, ("drop", "y"), InUse, number=0)
        for deed in (("deafen", "s"), ("drop", "s"), ("deafen", "x"), ("drop", "x"), ("drop", "z")):
            board.do(deed)
        self.assertEqual(board.net().houses(), ["y"])
        # A line ahead of all else.
        board = board_of([("house", "s"), ("house", "x"), ("source", "s"), ("hear", "x"), ("line", "s", "x", 1),
                          ("line", "s", "x", 1), ("cut", 1)])
        self.refuses(board, ("drop", "s"), InUse, number=2)
        self.refuses(board, ("drop", "x"), InUse, number=2)

    def test_line(self):
        board = board_of([("house", "a"), ("house", "b")])
        for slow in (1, 0, 5):
            self.refuses(board, ("line", "k", "j", slow), NoHouse, name="k")
            self.refuses(board, ("line", "k", "k", slow), NoHouse, name="k")
            self.refuses(board, ("line", "a", "j", slow), NoHouse, name="j")
            self.refuses(board, ("line", "", "b", slow), NoHouse, name="")
            self.refuses(board, ("line", "a", "a", slow), BadLine)
        for slow in (0, 5, -1, helper.LONG):
            self.refuses(board, ("line", "a", "b", slow), BadNumber)
        for at in range(30):
            board.do(("line", "a", "b", at % 4 + 1))
        self.assertEqual(board.net().lines()[-1], (30, "a", "b", 2))
        self.refuses(board, ("line", "a", "b", 1), Full)
        self.refuses(board, ("line", "a", "b", 5), BadNumber)
        self.refuses(board, ("line", "b", "b", 1), BadLine)
        board.do(("cut", 30))
        board.do(("line", "b", "a", 4))
        self.assertEqual(board.net().lines()[-1], (30, "b", "a", 4))

    def test_the_number_99(self):
        board = board_of([("house", "a"), ("house", "b")])
        for number in range(1, 100):
            board.do(("line", "a", "b", 1))
            if number > 1:
                board.do(("cut", number - 1))
        self.assertEqual(board.net().lines(), [(99, "a", "b", 1)])
        self.refuses(board, ("line", "a", "b", 1), BadNumber)
        self.refuses(board, ("line", "a", "a", 1), BadLine)
        self.refuses(board, ("line", "a", "k", 1), NoHouse, name="k")
        board.do(("cut", 99))
        board.do(("line", "a", "b", 1))
        self.assertEqual(board.net().lines(), [(1, "a", "b", 1)])

    def test_cut(self):
        board = board_of(READY + [("lose", (2, 5)), ("lose", (5, 7))])
        for number in (0, 10, 99, -1, helper.LONG):
            self.refuses(board, ("cut", number), NoLine, number=number)
        for number in (2, 5, 7):
            self.refuses(board, ("cut", number), InUse, number=number)
        board.do(("spare", (5, 7)))
        board.do(("cut", 7))
        for number in (2, 5):
            self.refuses(board, ("cut", number), InUse, number=number)
        self.refuses(board, ("cut", 7), NoLine, number=7)

    def test_source(self):
        board = board_of(READY)
        for name in ("k", "", "S"):
            self.refuses(board, ("source", name), NoHouse, name=name)
        board.do(("source", "x"))
        self.assertEqual((board.source(), board.hearers()), ("x", ["x", "y"]))
        self.refused(BadHearers, board.task)
        board.do(("source", "x"))
        self.assertEqual(len(board), len(READY) + 2)

    def test_hear_and_deafen(self):
        board = board_of(BUTTERFLY + [("hear", "d"), ("hear", "a")])
        self.refuses(board, ("hear", "k"), NoHouse, name="k")
        self.refuses(board, ("hear", "d"), Taken)
        self.refuses(board, ("deafen", "k"), NoHouse, name="k")
        self.refuses(board, ("deafen", "b"), NoHouse, name="b")
        self.assertEqual(board.hearers(), ["d", "a"])
        board.do(("hear", "x"))
        board.do(("hear", "b"))
        self.refuses(board, ("hear", "y"), Full)
        self.refuses(board, ("hear", "x"), Taken)
        self.refuses(board, ("hear", "k"), NoHouse, name="k")
        board.do(("deafen", "a"))
        board.do(("hear", "y"))
        self.assertEqual(board.hearers(), ["d", "x", "b", "y"])
        # The source may be a hearer, here, and a hearer the source.
        board.do(("source", "d"))
        board.do(("deafen", "d"))
        board.do(("hear", "d"))
        self.assertEqual((board.source(), board.hearers()), ("d", ["x", "b", "y", "d"]))

    def test_letters_and_size(self):
        board = board_of(READY)
        for many in (0, 5, -1, helper.LONG):
            self.refuses(board, ("letters", many), BadNumber)
        for size in (0, 1, 6, 10, 12, 15, 17, -2, helper.LONG):
            self.refuses(board, ("size", size), BadSize)
        for many in (1, 2, 3, 4):
            board.do(("letters", many))
            self.assertEqual(board.letters(), many)
        for size in helper.SIZES:
            board.do(("size", size))
            self.assertEqual((board.size(), board.task().field().size()), (size, size))

    def test_lose_and_spare(self):
        board = board_of(READY + [("lose", (3,)), ("lose", (1, 4))])
        for lines in ((), (2, 1), (1, 1), (1, 3, 2), (3,), (1, 4), (77, 77), (78, 77)):
            self.refuses(board, ("lose", lines), BadLoss)
        self.refuses(board, ("lose", (1, 66, 77)), NoLine, number=66)
        self.refuses(board, ("lose", (0, 66)), NoLine, number=0)
        for lines in ((), (1,), (4, 1), (1, 4, 5), (77,)):
            self.refuses(board, ("spare", lines), BadLoss)
        board.do(("lose", (1, 3, 4)))
        self.assertEqual(board.losses(), [(3,), (1, 4), (1, 3, 4)])
        self.refuses(board, ("lose", (2,)), BadLoss)
        self.refuses(board, ("lose", (77,)), BadLoss)
        board.do(("spare", (1, 4)))
        board.do(("lose", (2,)))
        self.assertEqual(board.losses(), [(3,), (1, 3, 4), (2,)])
        self.assertEqual(board.task().losses(), [(3,), (1, 3, 4), (2,)])

    def test_a_board_that_is_no_task_yet(self):
        board = Board()
        for deed, error in ((("house", "s"), NoHouse), (("house", "x"), NoHouse), (("line", "s", "x", 1), NoHouse),
                            (("hear", "x"), NoHouse), (("source", "x"), BadHearers), (("source", "s"), None),
                            (("line", "x", "s", 1), Ringed), (("cut", 2), None), (("deafen", "x"), BadHearers)):
            board.do(deed)
            if error is None:
                self.assertIsInstance(board.task(), Task)
                self.refused(Short, board.plan, hearer="x", loss=(), within=["s"])
            else:
                self.assertRaises(error, board.task)
                self.assertRaises(error, board.plan)
                self.assertIsNone(board.planned())
        # A ring is told ahead of a source that lacks.
        ringed = board_of([("house", "a"), ("house", "b"), ("line", "a", "b", 1), ("line", "b", "a", 1)])
        self.assertRaises(Ringed, ringed.task)
        self.refused(NoHouse, board_of([("house", "a"), ("hear", "a")]).task, name="")

    def test_narrow(self):
        board = board_of([("house", "s"), ("house", "x")] + [("line", "s", "x", 1)] * 3 + [("source", "s"), ("hear", "x")])
        board.do_all([("lose", (1,)), ("lose", (2,)), ("lose", (3,)), ("size", 3)])
        self.refused(Narrow, board.plan)
        self.assertIsNone(board.planned())
        board.do(("size", 4))
        self.assertTrue(board.plan().good())


class TestPlan(BoardCase):
    def start(self, *deeds):
        board = board_of(READY + list(deeds))
        board.plan()
        return board

    def stands(self, board, deed):
        board.do(deed)
        if board.planned() is None:
            return False
        self.assertTrue(board.planned().task() == board.task())
        self.assertTrue(board.planned().good())
        self.assertTrue(board.plan() == board.planned())
        return True

    def test_made_and_kept(self):
        board = board_of(READY)
        self.assertIsNone(board.planned())
        plan = board.plan()
        self.assertTrue(plan.good() and plan.task() == board.task())
        self.assertTrue(board.planned() == plan and board.plan() == plan)
        self.assertEqual((len(board), board.deeds()), (len(READY), READY))

    def test_source_and_size(self):
        for deed in (("source", "s"), ("source", "a"), ("size", 16), ("size", 9)):
            self.assertFalse(self.stands(self.start(), deed))

    def test_a_house(self):
        board = self.start()
        mixers = board.planned().mixers()
        self.assertTrue(self.stands(board, ("house", "new")))
        self.assertTrue(self.stands(board, ("drop", "new")))
        self.assertEqual(board.planned().mixers(), mixers)

    def test_a_line_that_came(self):
        board = self.start()
        mixers = board.planned().mixers()
        # Out of the source, then into c: the line out of c gets a nought for it, behind the others.
        self.assertTrue(self.stands(board, ("line", "s", "y", 3)))
        self.assertTrue(self.stands(board, ("line", "s", "c", 2)))
        self.assertTrue(self.stands(board, ("line", "c", "x", 1)))
        self.assertTrue(self.stands(board, ("line", "s", "a", 1)))
        self.assertEqual(board.planned().mixers(), {
            **mixers, 10: (0, 0), 11: (0, 0), 5: mixers[5] + (0,), 12: (0, 0, 0), 13: (0, 0), 3: mixers[3] + (0,),
            6: mixers[6] + (0,)})

    def test_a_line_into_the_source(self):
        board = self.start(("house", "r"))
        mixers = board.planned().mixers()
        self.assertTrue(self.stands(board, ("line", "r", "s", 1)))
        self.assertEqual(board.planned().mixers(), {**mixers, 10: ()})
        self.assertTrue(self.stands(board, ("cut", 10)))
        self.assertEqual(board.planned().mixers(), mixers)

    def test_a_line_that_makes_a_ring(self):
        self.assertFalse(self.stands(self.start(), ("line", "x", "s", 1)))

    def test_a_line_that_went(self):
        board = self.start(("line", "s", "c", 1), ("line", "s", "x", 1))
        mixers = board.planned().mixers()
        # No plan that is made here needs line 10; without it the line out of c has a number less.
        stood = self.stands(board, ("cut", 10))
        if stood:
            self.assertEqual(board.planned().mixers(), {
                number: row[:2] if number == 5 else row for number, row in mixers.items() if number != 10})
        self.assertFalse(self.stands(self.start(), ("cut", 5)))
        self.assertFalse(self.stands(self.start(), ("cut", 6)))

    def test_mixers_lose_the_number_of_the_line(self):
        # x hears only line 2, so line 1 may go, and the first number of line 3 goes with it.
        board = board_of([("house", name) for name in "sax"] + [("line", "s", "a", 1), ("line", "s", "x", 1),
                         ("line", "a", "x", 1), ("letters", 1), ("source", "s"), ("hear", "x")])
        board.do(("line", "s", "a", 1))
        board.plan()
        self.assertEqual({number: len(row) for number, row in board.planned().mixers().items()}, {1: 1, 2: 1, 3: 2, 4: 1})
        kept = {}
        for number in (1, 4):
            twin = board.twin()
            twin.do(("cut", number))
            if twin.planned() is not None:
                kept[number] = twin.planned().mixers()
                mixers = board.planned().mixers()
                wanted = {line: row for line, row in mixers.items() if line != number}
                wanted[3] = mixers[3][1:] if number == 1 else mixers[3][:1]
                self.assertEqual(kept[number], wanted)
        self.assertGreater(len(kept), 0)

    def test_letters(self):
        board = self.start()
        mixers = board.planned().mixers()
        self.assertTrue(self.stands(board, ("letters", 2)))
        self.assertEqual(board.planned().mixers(), mixers)
        self.assertTrue(self.stands(board, ("letters", 1)))
        self.assertEqual(board.planned().mixers(), {**mixers, 1: mixers[1][:1], 2: mixers[2][:1]})
        # A number more is a nought, and so no hearer has the new letter.
        self.assertFalse(self.stands(board, ("letters", 2)))

    def test_hearers(self):
        board = self.start(("house", "z"))
        self.assertTrue(self.stands(board, ("deafen", "x")))
        self.assertTrue(self.stands(board, ("hear", "x")))
        self.assertEqual(board.hearers(), ["y", "x"])
        self.assertFalse(self.stands(board, ("hear", "z")))
        board = self.start()
        self.assertFalse(self.stands(board, ("hear", "s")))
        board = self.start()
        self.assertTrue(self.stands(board, ("deafen", "y")))
        self.assertFalse(self.stands(board, ("deafen", "x")))

    def test_losses(self):
        # Each hearer needs all its lines, so what is lost must be of no use to both.
        board = self.start(("house", "z"), ("line", "d", "z", 1))
        self.assertTrue(self.stands(board, ("lose", (10,))))
        self.assertTrue(self.stands(board, ("spare", (10,))))
        self.assertFalse(self.stands(board, ("lose", (5,))))
        self.assertFalse(self.stands(board, ("spare", (5,))))
        self.assertTrue(board.plan().good())

    def test_a_plan_that_was_let_go_is_not_found_again_but_by_undo(self):
        board = self.start()
        plan = board.planned()
        board.do(("house", "z"))
        board.do(("hear", "z"))
        self.assertIsNone(board.planned())
        board.do(("deafen", "z"))
        self.assertIsNone(board.planned())
        board.undo()
        self.assertIsNone(board.planned())
        board.undo()
        self.assertEqual(board.planned().mixers(), plan.mixers())

    def test_a_refused_deed_lets_nothing_go(self):
        board = self.start()
        board.do(("house", "z"))
        board.undo()
        before = told(board)
        for deed in (("source", "k"), ("size", 6), ("cut", 77), ("hear", "x"), ("letters", 0), ("lose", ()), ("home",)):
            self.assertRaises((LookupError, ValueError, RuntimeError), board.do, deed)
            self.assertEqual(told(board), before)
        self.assertEqual(board.redo(), ("house", "z"))


class TestUndo(BoardCase):
    def test_one_by_one(self):
        board, stands = Board(), []
        for deed in READY:
            stands.append(told(board))
            self.assertIsNone(board.do(deed))
        stands.append(told(board))
        for at in range(len(READY) - 1, -1, -1):
            self.assertEqual(board.undo(), READY[at])
            self.assertEqual(told(board), stands[at])
        self.refused(NothingLeft, board.undo)
        self.assertEqual(told(board), stands[0])
        for at, deed in enumerate(READY):
            self.assertEqual(board.redo(), deed)
            self.assertEqual(told(board), stands[at + 1])
        self.refused(NothingLeft, board.redo)
        self.assertEqual(told(board), stands[-1])

    def test_a_deed_ends_doing_again(self):
        board = board_of(READY)
        board.undo()
        board.undo()
        board.do(("house", "z"))
        self.refused(NothingLeft, board.redo)
        self.assertEqual(board.undo(), ("house", "z"))

    def test_the_plan_that_stood_then(self):
        board = board_of(READY)
        plan = board.plan()
        board.do(("size", 9))
        self.assertIsNone(board.planned())
        other = board.plan()
        self.assertFalse(plan == other)
        board.undo()
        self.assertTrue(board.planned() == plan)
        board.redo()
        # Done again: the plan that stood as it was taken back.
        self.assertTrue(board.planned() == other)
        board.undo()
        self.assertTrue(board.planned() == plan)

    def test_a_plan_made_behind_the_deed_is_not_made_ahead_of_it(self):
        board = board_of(READY + [("house", "z")])
        plan = board.plan()
        board.undo()
        self.assertIsNone(board.planned())
        board.redo()
        self.assertTrue(board.planned() == plan)

    def test_making_a_plan_is_no_deed(self):
        board = board_of(READY + [("house", "z")])
        board.undo()
        plan = board.plan()
        self.assertEqual(board.redo(), ("house", "z"))
        # Behind redo nothing stands, as it was taken back; undo brings back what stood when redo was called.
        self.assertIsNone(board.planned())
        board.undo()
        self.assertTrue(board.planned() == plan)
        self.assertEqual(board.redo(), ("house", "z"))
        self.assertIsNone(board.planned())
        other = board.plan()
        board.undo()
        self.assertTrue(board.planned() == plan)
        board.redo()
        self.assertTrue(board.planned() == other)

    def test_a_refused_plan_leaves_all(self):
        board = board_of(READY + [("lose", (5,))])
        board.undo()
        board.redo()
        board.do(("house", "z"))
        board.undo()
        before = told(board)
        self.assertRaises(Short, board.plan)
        self.assertEqual(told(board), before)
        self.assertEqual(board.redo(), ("house", "z"))


class Spy(list):
    """A list that notes at each thing whether the board is busy."""

    def __init__(self, board, things):
        super().__init__(things)
        self.board, self.noted = board, []

    def __iter__(self):
        for thing in super().__iter__():
            self.noted.append(self.board.busy())
            yield thing


class TestDoAll(BoardCase):
    def test_lists_and_tuples(self):
        for kind in (list, tuple):
            board = Board()
            self.assertIsNone(board.do_all(kind(READY)))
            self.assertEqual(told(board), told(board_of(READY)))
            self.assertEqual(board.undo(), READY[-1])
            self.assertEqual(board.deeds(), READY[:-1])
            self.assertFalse(board.busy())

    def test_a_refused_deed_first_in_the_middle_and_last(self):
        good = [("house", "p"), ("line", "s", "p", 1), ("size", 4), ("hear", "p")]
        bad = [(("house", "S"), BadName, {}), (("cut", 77), NoLine, {"number": 77}), (("drop", "s"), InUse, {"number": 1}),
               (("house",), BadDeed, {}), (("source", "k"), NoHouse, {"name": "k"}), ((), BadDeed, {})]
        for planned in (False, True):
            board = board_of(READY + [("house", "z"), ("house", "q")])
            if planned:
                board.plan()
            board.undo()
            before = told(board)
            for deed, error, fields in bad:
                for at in range(len(good) + 1):
                    for kind in (list, tuple):
                        self.refused(error, lambda: board.do_all(kind(good[:at] + [deed] + good[at:])), **fields)
                        self.assertEqual(told(board), before)
            # What could be done again still can, and likewise what could be taken back.
            self.assertEqual((board.redo(), board.undo(), board.undo()), (("house", "q"), ("house", "q"), ("house", "z")))

    def test_the_first_of_two_refused_deeds_is_told(self):
        board = Board()
        self.refused(NoHouse, lambda: board.do_all([("house", "a"), ("source", "k"), ("size", 6)]), name="k")
        # A deed that only those ahead of it let.
        self.refused(Taken, lambda: board.do_all([("house", "a"), ("source", "a"), ("house", "a")]))
        self.assertEqual(told(board), told(Board()))

    def test_of_none(self):
        board = board_of(READY)
        board.undo()
        before = told(board)
        board.do_all([])
        board.do_all(())
        board.do_all(deeds=[])
        self.assertEqual(told(board), before)
        self.assertEqual(board.redo(), READY[-1])

    def test_some_end_doing_again(self):
        board = board_of(READY)
        board.undo()
        board.do_all([("house", "z")])
        self.refused(NothingLeft, board.redo)

    def test_the_plan_goes_along(self):
        board = board_of(READY)
        plan = board.plan()
        board.do_all([("house", "z"), ("line", "s", "z", 1)])
        self.assertEqual(board.planned().mixers(), {**plan.mixers(), 10: (0, 0)})
        board.undo()
        self.assertEqual(board.planned().mixers(), plan.mixers())
        board.do_all([("size", 9), ("size", 16)])
        self.assertIsNone(board.planned())

    def test_busy(self):
        board = Board()
        self.assertIs(board.busy(), False)
        spy = Spy(board, READY)
        board.do_all(spy)
        self.assertEqual((spy.noted, board.busy()), ([True] * len(READY), False))
        spy = Spy(board, [("house", "z"), ("house", "z"), ("house", "q")])
        self.refused(Taken, lambda: board.do_all(spy))
        self.assertEqual((set(spy.noted), board.busy()), ({True}, False))
        board.do_all([])
        board.do(("house", "z"))
        self.assertIs(board.busy(), False)
        self.assertIs(board.twin().busy(), False)

    def test_handed_lists(self):
        board, deeds = Board(), list(READY)
        board.do_all(deeds)
        self.assertEqual(deeds, READY)
        deeds.clear()
        self.assertEqual(board.deeds(), READY)
        board.deeds().clear()
        self.assertEqual(board.deeds(), READY)


class TestTwins(BoardCase):
    def test_alike_and_apart(self):
        board = board_of(READY + [("house", "z"), ("size", 5)])
        board.undo()
        plan = board.plan()
        twin = board.twin()
        self.assertIsInstance(twin, Board)
        self.assertEqual(told(twin), told(board))
        self.assertTrue(twin == board)
        self.assertTrue(twin.planned() == plan)
        before = told(board)
        self.assertEqual((twin.redo(), twin.undo(), twin.undo()), (("size", 5), ("size", 5), ("house", "z")))
        twin.do(("size", 4))
        twin.do(("hear", "d"))
        self.assertEqual(told(board), before)
        before = told(twin)
        self.assertEqual((board.redo(), board.undo()), (("size", 5), ("size", 5)))
        board.do(("cut", 1))
        self.assertEqual(told(twin), before)
        self.assertFalse(twin == board)

    def test_a_plan_made_by_one_is_not_the_others(self):
        board = board_of(READY)
        twin = board.twin()
        board.plan()
        self.assertIsNone(twin.planned())
        twin.do(("house", "z"))
        self.assertIsNone(twin.planned())
        other = board.twin()
        other.do(("size", 5))
        self.assertIsNotNone(board.planned())
        other.undo()
        self.assertTrue(other.planned() == board.planned())

    def test_alike_by_deeds(self):
        board, other = board_of(READY), board_of(READY)
        self.assertTrue(board == other and not board != other)
        other.plan()
        self.assertTrue(board == other)
        other.do(("house", "z"))
        self.assertFalse(board == other or not board != other)
        other.undo()
        self.assertTrue(board == other)
        # The same things by other deeds.
        swapped = board_of([READY[1], READY[0]] + READY[2:])
        self.assertTrue(swapped.task() == board.task())
        self.assertFalse(board == swapped)
        self.assertFalse(board_of([("house", "a"), ("drop", "a")]) == Board())
        for thing in (None, 0, READY, (), "", board.net(), board.task(), object()):
            self.assertFalse(board == thing)
            self.assertTrue(board != thing)

    def test_told_things_may_be_changed(self):
        board = board_of(READY + [("lose", (1,)), ("spare", (1,)), ("lose", (3,))])
        before = told(board)
        board.net().cut(1)
        board.net().house("new")
        for ask in (board.hearers, board.losses, board.deeds):
            self.assertFalse(ask() is ask())
            ask().clear()
        board.task().hearers().clear()
        self.assertEqual(told(board), before)
        board.do(("spare", (3,)))
        board.plan().mixers().clear()
        self.assertTrue(board.plan().good() and len(board.plan().mixers()) == 9)
        for deed in board.deeds():
            self.assertIsInstance(deed, tuple)

    def test_boards_have_nothing_to_do_with_one_another(self):
        one, other = Board(), Board()
        one.do_all(READY)
        self.assertEqual(told(other), ([], 0, [], [], None, [], 2, [], 16, False, None))


if __name__ == "__main__":
    unittest.main()
