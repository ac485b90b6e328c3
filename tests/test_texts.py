import random
import unittest

import helper
from mingleway.errors import BadText
from mingleway.nets import Net
from mingleway.plans import Plan
from mingleway.tasks import Task
from mingleway.texts import deed_text, net_text, plan_text, read_deed, read_net, read_plan

NAMES = ["a", "ab", "b", "house", "line", "x", "z", "zzzzzz"]
# Of each deed one, and its text.
DEEDS = {
    "house a": ("house", "a"), "drop zzzzzz": ("drop", "zzzzzz"), "line a b 4": ("line", "a", "b", 4),
    "cut 99": ("cut", 99), "source s": ("source", "s"), "hear x": ("hear", "x"), "deafen x": ("deafen", "x"),
    "letters 3": ("letters", 3), "lose 5": ("lose", (5,)), "lose 1+20+3": ("lose", (1, 20, 3)),
    "spare 7": ("spare", (7,)), "spare 0+999999": ("spare", (0, 999999)), "size 16": ("size", 16)}


class TextCase(unittest.TestCase):
    def refused(self, row, call):
        with self.assertRaises(BadText) as caught:
            call()
        self.assertIs(caught.exception.__class__, BadText)
        self.assertEqual(vars(caught.exception), {"row": row})


def sample_net(chance):
    houses = chance.sample(NAMES, chance.randint(0, len(NAMES)))
    lines = helper.sample_lines(chance, houses, chance.randint(0, 9), False) if len(houses) > 1 else []
    return helper.net_of(houses, lines)


def bent(chance, text):
    """The text with a sign less, more or another one, or with a row moved or twice."""
    way = chance.randrange(5)
    if way < 3:
        at = chance.randrange(len(text) + (way == 1))
        sign = chance.choice(" \n:0123456789abhlx+")
        return text[:at] + (sign if way else "") + text[at + (way != 1):]
    rows = text.splitlines(keepends=True)
    one, other = chance.randrange(len(rows)), chance.randrange(len(rows))
    rows.insert(other, rows[one] if way == 3 else rows.pop(one))
    return "".join(rows)


class TestNets(TextCase):
    def test_written_by_hand(self):
        net = helper.net_of(["b", "a", "cc"], [(12, "a", "b", 4), (3, "cc", "a", 1), (99, "a", "b", 2)])
        text = "house a\nhouse b\nhouse cc\nline 3 cc a 1\nline 12 a b 4\nline 99 a b 2\n"
        self.assertEqual(net_text(net=net), text)
        self.assertTrue(read_net(text=text) == net)
        self.assertEqual(net_text(Net()), "")
        self.assertTrue(read_net("") == Net())
        self.assertTrue(read_net("house a\n") == helper.net_of("a", []))

    def test_read_back(self):
        chance = random.Random(51)
        for sample in range(80):
            net = sample_net(chance)
            before = net.twin()
            self.assertTrue(read_net(net_text(net)) == net)
            self.assertTrue(net == before)

    def test_the_greatest(self):
        names = [name * 6 for name in "abcdefghijkl"]
        net = helper.net_of(names, [(70 + at, names[at % 12], names[(at + 5) % 12], 1 + at % 4) for at in range(30)])
        text = net_text(net)
        self.assertTrue(read_net(text) == net)
        self.refused(12, lambda: read_net("".join(f"house {name}\n" for name in "abcdefghijklm")))
        self.refused(42, lambda: read_net(text.replace("line 70 ", "line 60 ") + "line 100 aaaaaa bbbbbb 1\n"))
        rows = text.splitlines(keepends=True)
        rows.insert(12, "line 1 aaaaaa bbbbbb 1\n")
        self.refused(42, lambda: read_net("".join(rows)))

    def test_bent_by_hand(self):
        good = "house a\nhouse b\nline 3 a b 1\nline 4 b a 2\n"
        read_net(good)
        for row, text in (
                (0, "\n"), (0, " "), (0, "house a"), (0, "house\n"), (0, "house \n"), (0, " house a\n"), (0, "house a \n"),
                (0, "house  a\n"), (0, "House a\n"), (0, "house A\n"), (0, "house abcdefg\n"), (0, "house a b\n"),
                (0, "line 1 a b 1\n"), (0, "home a\n"), (0, "house a\x20\n"), (0, "house 1\n"), (0, "a\n"),
                (1, "house b\nhouse a\n"), (1, "house a\nhouse a\n"), (1, "house a\n\n"), (1, "house a\nhouse b"),
                (1, "house a\n "), (1, "house a\nline 3 a b 1\nhouse b\n"), (1, "house a\nline 1 a a 1\n"),
                (2, "house a\nhouse b\nline 3 a b 1"), (2, "house a\nhouse b\nline 03 a b 1\n"),
                (2, "house a\nhouse b\nline 0 a b 1\n"), (2, "house a\nhouse b\nline 100 a b 1\n"),
                (2, "house a\nhouse b\nline 0000003 a b 1\n"), (2, "house a\nhouse b\nline 1000000 a b 1\n"),
                (2, "house a\nhouse b\nline 3 a b 0\n"), (2, "house a\nhouse b\nline 3 a b 5\n"),
                (2, "house a\nhouse b\nline 3 a b 01\n"), (2, "house a\nhouse b\nline 3 a b\n"),
                (2, "house a\nhouse b\nline 3 a b 1 1\n"), (2, "house a\nhouse b\nline 3  a b 1\n"),
                (2, "house a\nhouse b\nline 3 a b 1 \n"), (2, "house a\nhouse b\nline -3 a b 1\n"),
                (2, "house a\nhouse b\nline +3 a b 1\n"), (2, "house a\nhouse b\nline 3_0 a b 1\n"),
                (2, "house a\nhouse b\nline 3. a b 1\n"), (2, "house a\nhouse b\nline a a b 1\n"),
                (2, "house a\nhouse b\nline 3 a c 1\n"), (2, "house a\nhouse b\nline 3 c a 1\n"),
                (3, "house a\nhouse b\nline 4 a b 1\nline 3 b a 1\n"),
                (3, "house a\nhouse b\nline 3 a b 1\nline 3 b a 1\n"), (3, "house a\nhouse b\nline 3 a b 1\nhouse c\n"),
                (3, "house a\nhouse b\nline 3 a b 1\nline 4 b a 2"), (4, good + "\n"), (4, good + "x"),
                (4, good + "line 4 b a 2\n"), (0, "\n" + good), (0, good.replace("\n", "")), (0, good.replace("\n", " "))):
            with self.subTest(text=text):
                self.refused(row, lambda: read_net(text))

    def test_the_first_row_of_several(self):
        self.refused(1, lambda: read_net("house a\nhous b\nline 1 a c 1\nline 2"))
        self.refused(2, lambda: read_net("house a\nhouse b\nline 1 a c 1\nhous b\nline 2"))
        self.refused(0, lambda: read_net("x\n" * 3000))

    def test_bent_at_random(self):
        """Just what is written as a net's text is read."""
        chance, met = random.Random(52), [0, 0]
        for sample in range(400):
            text = bent(chance, net_text(sample_net(chance)) or "house a\n")
            try:
                net = read_net(text)
            except BadText as bad:
                met[0] += 1
                rows = text.split("\n")
                self.assertLess(bad.row, len(rows))
                # The rows ahead of it are a net's text, and with it they are none.
                read_net("".join(row + "\n" for row in rows[:bad.row]))
                if bad.row < len(rows) - 1:
                    self.assertRaises(BadText, read_net, "".join(row + "\n" for row in rows[:bad.row + 1]))
                else:
                    self.assertNotEqual(rows[-1], "")
            else:
                met[1] += 1
                self.assertEqual(net_text(net), text)
        self.assertGreater(min(met), 5)


class TestPlans(TextCase):
    def task(self, **words):
        net = helper.net_of("sabx", [(2, "s", "a", 1), (10, "s", "a", 1), (30, "a", "x", 1), (4, "b", "x", 1)])
        return Task(net, "s", ["x"], **{"letters": 3, "size": 16, **words})

    TEXT = "2: 1 0 15\n4:\n10: 0 10 2\n30: 7 1\n"
    MIXERS = {2: (1, 0, 15), 4: (), 10: (0, 10, 2), 30: (7, 1)}

    def test_written_by_hand(self):
        plan = Plan(self.task(), {30: (7, 1), 2: (1, 0, 15), 10: (0, 10, 2), 4: ()})
        self.assertEqual(plan_text(plan=plan), self.TEXT)
        told = read_plan(text=self.TEXT, task=self.task())
        self.assertTrue(told == plan)
        self.assertEqual(told.mixers(), self.MIXERS)

    def test_a_net_without_lines(self):
        task = Task(helper.net_of("sx", []), "s", ["x"])
        self.assertEqual(plan_text(Plan(task, {})), "")
        self.assertTrue(read_plan(task, "") == Plan(task, {}))
        self.refused(1, lambda: read_plan(task, "1:\n"))
        self.refused(0, lambda: read_plan(self.task(), ""))

    def test_read_back(self):
        chance = random.Random(53)
        for sample in range(60):
            houses = list("sabcx")
            task = Task(helper.net_of(houses, helper.sample_lines(chance, houses, chance.randint(0, 12), True)), "s", ["x"],
                        letters=chance.randint(1, 4), size=chance.choice(helper.SIZES))
            plan = Plan(task, helper.sample_mixers(chance, task))
            before = plan.mixers()
            self.assertTrue(read_plan(task, plan_text(plan)) == plan)
            self.assertEqual(plan.mixers(), before)

    def test_bent_by_hand(self):
        rows = self.TEXT.splitlines(keepends=True)
        for at, bad in ((0, "2 : 1 0 15\n"), (0, "2:1 0 15\n"), (0, "2:  1 0 15\n"), (0, "2: 1  0 15\n"), (0, "2: 1 0 15 \n"),
                        (0, " 2: 1 0 15\n"), (0, "02: 1 0 15\n"), (0, "2: 01 0 15\n"), (0, "2: 1 00 15\n"), (0, "\n"),
                        (0, "2: 1 0 1500000\n"), (0, "2: 1 0 0000015\n"), (0, "2: 1 0 -1\n"), (0, "2; 1 0 15\n"), (0, ":\n"),
                        (0, "2 1 0 15\n"), (0, "0: 1 0 15\n"), (0, "-2: 1 0 15\n"), (0, "2:: 1 0 15\n"), (0, "2: 1, 0, 15\n"),
                        (0, "2: a b c\n"), (0, "0000002: 1 0 15\n"), (0, "2000000: 1 0 15\n"), (0, ": 1 0 15\n"),
                        (1, "4: \n"), (1, "4\n"), (1, "2:\n"), (1, "1:\n"), (1, ""), (2, "4: 0 10 2\n"), (3, "10: 7 1\n"),
                        (3, "30: 7 1"), (3, "30: 7 x\n"), (3, "30: 7 1\n\n")):
            text = "".join(rows[:at] + [bad] + rows[at + 1:])
            with self.subTest(text=text):
                # A row that lacks makes no row wrong, and a row too many is the next one.
                wanted = {"": 3, "30: 7 1\n\n": 4}.get(bad, at)
                self.refused(wanted, lambda: read_plan(self.task(), text))
        self.refused(0, lambda: read_plan(self.task(), self.TEXT[:-1].replace("\n", " ")))
        self.refused(1, lambda: read_plan(self.task(), rows[1] + rows[0] + rows[2] + rows[3]))
        self.refused(1, lambda: read_plan(self.task(), rows[0] + rows[0] + rows[1] + rows[2] + rows[3]))

    def test_written_so_but_no_plan_of_the_task(self):
        rows = self.TEXT.splitlines(keepends=True)
        for text in ("".join(rows[:3]), "".join(rows[1:]), self.TEXT + "31: 1\n", self.TEXT + "999999: 1\n",
                     self.TEXT.replace("30:", "29:"), self.TEXT.replace("15", "16"), self.TEXT.replace("15", "999999"),
                     self.TEXT.replace(" 15", ""), self.TEXT.replace("15", "15 0"), self.TEXT.replace("4:", "4: 0")):
            with self.subTest(text=text):
                self.refused(text.count("\n"), lambda: read_plan(self.task(), text))
        for task in (self.task(letters=2), self.task(letters=4), self.task(size=9)):
            self.refused(4, lambda: read_plan(task, self.TEXT))
        # A row that is not written so is told ahead of this.
        self.refused(1, lambda: read_plan(self.task(size=9), "2: 1 0 15\n04:\n"))
        self.refused(3, lambda: read_plan(self.task(size=9), self.TEXT[:-1]))

    def test_bent_at_random(self):
        chance, met = random.Random(54), [0, 0]
        task = self.task()
        for sample in range(400):
            text = bent(chance, self.TEXT)
            try:
                plan = read_plan(task, text)
            except BadText as bad:
                met[0] += 1
                self.assertLessEqual(bad.row, len(text.split("\n")))
            else:
                met[1] += 1
                self.assertEqual(plan_text(plan), text)
        self.assertGreater(min(met), 5)


class TestDeeds(TextCase):
    def test_each_kind(self):
        for text, deed in DEEDS.items():
            with self.subTest(text=text):
                self.assertEqual(deed_text(deed=deed), text)
                self.assertEqual(read_deed(text=text), deed)
                self.assertIsInstance(read_deed(text), tuple)

    def test_names_of_any_signs(self):
        signs = [chr(at) for at in range(33, 127) if chr(at) != "%"]
        for name in signs + ["".join(signs), "House", "a+b", "1", "007", "undo", "-", "\\n", "x" * 300]:
            for first in ("house", "drop", "source", "hear", "deafen"):
                self.assertEqual(read_deed(f"{first} {name}"), (first, name))
                self.assertEqual(deed_text((first, name)), f"{first} {name}")
            self.assertEqual(read_deed(f"line {name} {name} 1"), ("line", name, name, 1))

    def test_numbers_in_and_out_of_their_bounds_are_read(self):
        for number in (0, 1, 9, 10, 100, 999999):
            for first in ("cut", "letters", "size"):
                self.assertEqual(read_deed(f"{first} {number}"), (first, number))
            self.assertEqual(read_deed(f"line a a {number}"), ("line", "a", "a", number))
            self.assertEqual(read_deed(f"lose {number}+{number}+1"), ("lose", (number, number, 1)))
        self.assertEqual(deed_text(("letters", helper.LONG)), f"letters {helper.LONG}")
        many = tuple(range(300))
        self.assertEqual(read_deed(deed_text(("lose", many))), ("lose", many))

    def test_losses_of_no_line_are_written_but_not_read(self):
        for first in ("lose", "spare"):
            self.assertEqual(deed_text((first, ())), first + " ")
            self.refused(0, lambda: read_deed(first + " "))

    def test_not_read(self):
        wrong = ["", " ", "\n", "house", "undo", "plan", "what"]
        for text, deed in DEEDS.items():
            first, rest = text.split(" ", 1)
            wrong += [first, first + " ", " " + text, text + " ", text + "\n", "\n" + text, text + " x", text + " 1",
                      text.replace(" ", "  "), first.upper() + " " + rest, first + "s " + rest, first[:-1] + " " + rest,
                      first + rest, first + "\n" + rest, first + "\t" + rest]
        for first in ("cut", "letters", "size", "lose", "spare", "line a b", "lose 1", "line a"):
            glue = "+" if first == "lose 1" else " "
            for number in ("", "01", "00", "1000000", "0000001", "-1", "+1", "a", "1a", "1.", "1,2", "1\n", "1_0", "x1"):
                wrong.append(first + glue + number)
        wrong += ["lose 1+", "lose +", "lose 1++2", "lose (1,)", "lose 1 2", "lose 1,2", "spare 1+02", "lose 1+2+", "lose  1",
                  "cut 1+2", "house a\nb", "line a\n b 1", "line a b", "line a b 1 1", "line  b 1", "line a  1", "house a\n"]
        for sign in [chr(at) for at in range(32, 127) if not chr(at).isdigit()]:
            wrong += [f"letters {sign}", f"letters 1{sign}", f"letters {sign}1"]
        for text in wrong:
            with self.subTest(text=text):
                self.refused(0, lambda: read_deed(text))


if __name__ == "__main__":
    unittest.main()
