import random
import unittest
from itertools import product

import helper
from mingleway.errors import BadHearers, BadLoss, BadNumber, BadSize, NoHouse, NoLine, Ringed
from mingleway.fields import COMMON_SIZE, SIZES, Field
from mingleway.tasks import Task

# s has a line into it, and z stands for itself.
BUTTERFLY = "sa sb ac bc cd ax dx by dy rs"
WRONG_SIZES = (0, 1, -2, 6, 10, 12, 15, 17, 256, helper.LONG)


def butterfly():
    net = helper.pairs_net(BUTTERFLY)
    net.house("z")
    return net


def told(task):
    numbers = [line[0] for line in task.net().lines()]
    return (task.net().lines(), task.net().houses(), task.source(), task.letters(), task.field().size(),
            task.hearers(), task.losses(), task.cases(), [task.inputs(number) for number in numbers], task.short())


class TestTask(unittest.TestCase):
    def test_all_left_out(self):
        task = Task(butterfly(), "s", ["x", "y"])
        self.assertTrue(task.net() == butterfly())
        self.assertEqual((task.source(), task.letters(), task.hearers(), task.losses()), ("s", 2, ["x", "y"], []))
        self.assertTrue(task.field() == Field(COMMON_SIZE))
        self.assertEqual(task.cases(), [("x", ()), ("y", ())])

    def test_all_told(self):
        task = Task(hearers=("y", "d", "x"), source="s", net=butterfly(), size=9, losses=[(7,), (1, 4)], letters=3)
        self.assertEqual((task.letters(), task.hearers(), task.losses()), (3, ["y", "d", "x"], [(7,), (1, 4)]))
        self.assertTrue(task.field() == Field(9))
        self.assertEqual(task.cases(), [
            ("y", ()), ("y", (7,)), ("y", (1, 4)), ("d", ()), ("d", (7,)), ("d", (1, 4)),
            ("x", ()), ("x", (7,)), ("x", (1, 4))])
        with self.assertRaises(TypeError):
            Task(butterfly(), "s", ["x"], 2)

    def test_lists_and_tuples(self):
        for hearers, losses in product((["x", "y"], ("x", "y")), ([(3,), (1, 2)], ((3,), (1, 2)))):
            task = Task(butterfly(), "s", hearers, losses=losses)
            self.assertEqual((task.hearers(), task.losses()), (["x", "y"], [(3,), (1, 2)]))
            self.assertIsInstance(task.losses()[0], tuple)
            self.assertIsInstance(task.cases()[1], tuple)

    def test_all_bounds_are_let(self):
        net = butterfly()
        for letters in (1, 2, 3, 4):
            self.assertEqual(Task(net, "s", ["x"], letters=letters).letters(), letters)
        for size in SIZES:
            self.assertEqual(Task(net, "s", ["x"], size=size).field().size(), size)
        task = Task(net, "s", ["z", "r", "a", "y"], losses=[(1,), (2,), tuple(range(1, 11))])
        self.assertEqual(len(task.cases()), 16)
        self.assertEqual(task.losses(), [(1,), (2,), tuple(range(1, 11))])

    def test_inputs(self):
        net = butterfly()
        for letters in (1, 2, 3, 4):
            task = Task(net, "s", ["x"], letters=letters)
            wanted = {1: letters, 2: letters, 3: 1, 4: 1, 5: 2, 6: 1, 7: 1, 8: 1, 9: 1, 10: 0}
            self.assertEqual({number: task.inputs(number) for number in wanted}, wanted)
            self.assertEqual(task.inputs(number=5), 2)
            for number in (0, 11, -1, helper.LONG):
                with self.assertRaises(NoLine) as caught:
                    task.inputs(number)
                self.assertEqual(caught.exception.number, number)
        # A line from beyond the source mixes just what comes into its house, as lines out of no other house do.
        self.assertEqual(Task(helper.pairs_net("sa ta ab"), "s", ["b"]).inputs(3), 2)

    def test_what_was_handed_in_may_be_changed_and_is_not(self):
        net, hearers, losses = butterfly(), ["x", "y"], [(3,), (1, 2)]
        task = Task(net, "s", hearers, losses=losses)
        before = told(task)
        self.assertTrue(net == butterfly())
        self.assertEqual((hearers, losses), (["x", "y"], [(3,), (1, 2)]))
        net.line("x", "s")
        net.cut(1)
        net.cut(10)
        net.drop("r")
        hearers.append("d")
        losses.clear()
        self.assertEqual(told(task), before)

    def test_what_is_told_may_be_changed(self):
        task = Task(butterfly(), "s", ["x", "y"], losses=[(3,), (1, 2)])
        before = told(task)
        task.net().cut(5)
        task.net().house("new")
        for ask in (task.hearers, task.losses, task.cases):
            ask().clear()
        task.short()[2].clear()
        self.assertEqual(told(task), before)
        self.assertFalse(task.net() is task.net())

    def test_a_net_that_changes_between_two_tasks(self):
        net = butterfly()
        one = Task(net, "s", ["x"])
        net.cut(7)
        other = Task(net, "s", ["x"])
        self.assertEqual((one.short(), other.short()[:2]), (None, ("x", ())))
        self.assertFalse(one == other)

    def test_sized(self):
        task = Task(butterfly(), "s", ["x", "y"], letters=3, losses=[(2,)], size=5)
        before = told(task)
        for size in SIZES:
            alike = task.sized(size)
            self.assertIsInstance(alike, Task)
            self.assertTrue(alike == Task(butterfly(), "s", ["x", "y"], letters=3, losses=[(2,)], size=size))
            self.assertEqual(alike == task, size == 5)
        self.assertEqual(task.sized(size=7).field().size(), 7)
        for size in WRONG_SIZES:
            self.assertRaises(BadSize, task.sized, size)
        self.assertEqual(told(task), before)

    def test_alike(self):
        words = {"letters": 2, "losses": [(3,), (4,)], "size": 4}
        task = Task(butterfly(), "s", ["x", "y"], **words)
        same = Task(butterfly(), "s", ("x", "y"), **{**words, "losses": ((3,), (4,))})
        self.assertTrue(task == same)
        self.assertFalse(task != same)
        slower = butterfly()
        slower.cut(5)
        slower.line("c", "d", slow=2, number=5)
        others = [
            Task(slower, "s", ["x", "y"], **words), Task(butterfly(), "r", ["x", "y"], **words),
            Task(butterfly(), "s", ["x"], **words), Task(butterfly(), "s", ["y", "x"], **words),
            Task(butterfly(), "s", ["x", "y"], **{**words, "letters": 1}),
            Task(butterfly(), "s", ["x", "y"], **{**words, "losses": [(4,), (3,)]}),
            Task(butterfly(), "s", ["x", "y"], **{**words, "losses": []}),
            Task(butterfly(), "s", ["x", "y"], **{**words, "size": 5})]
        for other in others:
            self.assertFalse(task == other)
            self.assertTrue(task != other)
        for thing in (None, 0, "s", [], (), task.net(), task.cases(), object()):
            self.assertFalse(task == thing)
            self.assertTrue(task != thing)


class TestShort(unittest.TestCase):
    def test_the_first_case_with_a_cut_less_broad(self):
        chance, met = random.Random(8), set()
        for sample in range(80):
            houses = list("sabcdef"[:chance.randint(3, 7)])
            lines = helper.sample_lines(chance, houses, chance.randint(2, 20), True)
            numbers = [line[0] for line in lines]
            hearers = chance.sample(houses[1:], chance.randint(1, min(4, len(houses) - 1)))
            losses = list({(chance.choice(numbers),) for _ in range(chance.randint(0, 2))})
            letters = chance.choice((1, 1, 2, 3, 4))
            task = Task(helper.net_of(houses, lines), "s", hearers, letters=letters, losses=losses, size=2)
            short = [case for case in task.cases()
                     if helper.least_breadth(houses, lines, "s", case[0], case[1]) < letters]
            met.add((bool(short), short[:1] == task.cases()[:1]))
            if not short:
                self.assertIsNone(task.short())
                continue
            self.assertIsInstance(task.short(), tuple)
            hearer, loss, within = task.short()
            self.assertEqual((hearer, loss), short[0])
            self.assertEqual(within, sorted(set(within)))
            self.assertTrue("s" in within and hearer not in within and set(within) <= set(houses))
            self.assertLess(helper.breadth(lines, within, loss), letters)
        self.assertEqual(met, {(False, False), (True, False), (True, True)})

    def test_by_hand(self):
        task = Task(butterfly(), "s", ["x", "y"], losses=[(3,), (8,)])
        self.assertEqual(task.short()[:2], ("y", (3,)))
        self.assertIsNone(Task(butterfly(), "s", ["x"], losses=[(3,), (8,), (3, 9)], size=2).short())
        self.assertEqual(Task(butterfly(), "s", ["d"]).short()[:2], ("d", ()))
        self.assertEqual(Task(butterfly(), "s", ["z"], letters=1).short()[:2], ("z", ()))


class TestRefusals(unittest.TestCase):
    # Of each argument right ones, and wrong ones with the place of their refusal in the order of point [7].
    NETS = [(BUTTERFLY, None), (BUTTERFLY + " xs", (0, Ringed, None)), (BUTTERFLY + " uv vu", (0, Ringed, None))]
    SOURCES = [("s", None), ("k", (1, NoHouse, "k")), ("", (1, NoHouse, ""))]
    HEARERS = [
        (["x", "y"], None), (("x",), None), ([], (2, BadHearers, None)), (["x", "y", "a", "b", "c"], (2, BadHearers, None)),
        (["x", "y", "x"], (2, BadHearers, None)), (["x", "s"], (2, BadHearers, None)), (["n", "n"], (2, BadHearers, None)),
        (["x", "n", "m"], (3, NoHouse, "n")), (["m", "x"], (3, NoHouse, "m"))]
    LETTERS = [(2, None), (0, (4, BadNumber, None)), (5, (4, BadNumber, None)), (-helper.LONG, (4, BadNumber, None))]
    LOSSES = [
        ([(3,), (1, 2)], None), ([(1,), (2,), (3,), (4,)], (5, BadLoss, None)), ([(2, 1)], (5, BadLoss, None)),
        ([(1,), (2, 2)], (5, BadLoss, None)), ([(1, 2), (3,), (1, 2)], (5, BadLoss, None)), (((),), (5, BadLoss, None)),
        ([(77,), (3, 1)], (5, BadLoss, None)), ([(77,), (77,)], (5, BadLoss, None)), ([(1, 3, 2, 4)], (5, BadLoss, None)),
        ([(1,), (2, 77, 78), (66,)], (6, NoLine, 77)), ([(0,)], (6, NoLine, 0)), ([(66,), (65,)], (6, NoLine, 66))]
    ENDS = [(16, None), (6, (7, BadSize, None)), (helper.LONG, (7, BadSize, None))]

    def test_several_at_once_tell_the_first(self):
        nets = {text: helper.pairs_net(text) for text, _ in self.NETS}
        copies = {text: net.twin() for text, net in nets.items()}
        met = set()
        choices = product(self.NETS, self.SOURCES, self.HEARERS, self.LETTERS, self.LOSSES, self.ENDS)
        for (text, a), (source, b), (hearers, c), (letters, d), (losses, e), (size, f) in choices:
            due = min([wrong for wrong in (a, b, c, d, e, f) if wrong], default=None, key=lambda wrong: wrong[0])
            met.add(due and due[0])
            if due is None:
                Task(nets[text], source, hearers, letters=letters, losses=losses, size=size)
                continue
            with self.assertRaises(due[1]) as caught:
                Task(nets[text], source, hearers, letters=letters, losses=losses, size=size)
            self.assertIs(caught.exception.__class__, due[1])
            if due[1] in (NoHouse, NoLine):
                self.assertEqual(list(vars(caught.exception).values()), [due[2]])
        self.assertEqual(met, {None, 0, 1, 2, 3, 4, 5, 6, 7})
        self.assertTrue(all(nets[text] == copies[text] for text in nets))

    def test_the_ring_is_told(self):
        with self.assertRaises(Ringed) as caught:
            Task(helper.pairs_net("sa ab bc ca"), "k", [], letters=9, size=6)
        self.assertEqual(sorted(caught.exception.around), [2, 3, 4])

    def test_every_letters_and_size(self):
        net = butterfly()
        for letters in (0, 5, 6, -1, helper.LONG):
            self.assertRaises(BadNumber, Task, net, "s", ["x"], letters=letters)
        for size in WRONG_SIZES:
            self.assertRaises(BadSize, Task, net, "s", ["x"], size=size)

    def test_long_lists(self):
        net = butterfly()
        self.assertRaises(BadHearers, Task, net, "s", ["x"] * 300)
        self.assertRaises(BadLoss, Task, net, "s", ["x"], losses=[(at + 1,) for at in range(300)])
        with self.assertRaises(NoLine) as caught:
            Task(net, "s", ["x"], losses=[tuple(range(1, 301))])
        self.assertEqual(caught.exception.number, 11)


if __name__ == "__main__":
    unittest.main()
