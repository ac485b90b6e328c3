import random
import unittest
from itertools import combinations, product

import helper
from mingleway.errors import Narrow, Short
from mingleway.fields import Field
from mingleway.making import mixers_for
from mingleway.plans import Plan, made
from mingleway.tasks import Task


def sample_task(chance, most_lines, loss_lines, size):
    """A task over a net with rather many lines, so that several hearers can have several letters."""
    houses = list("sabcdefghijk"[:chance.randint(3, 12)])
    lines = helper.sample_lines(chance, houses, chance.randint(most_lines // 2, most_lines), True)
    numbers = [line[0] for line in lines]
    letters = chance.choice((1, 2, 2, 3, 4))
    able = [house for house in houses[1:]
            if sum(line[2] == house for line in lines) >= letters and chance.randrange(8)] or houses[1:]
    hearers = chance.sample(able, min(len(able), chance.randint(1, 4)))
    losses = {tuple(sorted(chance.sample(numbers, chance.randint(1, loss_lines)))) for _ in range(chance.randint(0, 3))}
    return Task(helper.net_of(houses, lines), "s", hearers, letters=letters, losses=sorted(losses), size=size)


def is_short(task, hearer, loss):
    return helper.least_breadth(task.net().houses(), task.net().lines(), task.source(), hearer, loss) < task.letters()


class TestMade(unittest.TestCase):
    def looked_at(self, task):
        """That a plan is made or refused as it must be; tells which."""
        copy = task.sized(task.field().size())
        short = [case for case in task.cases() if is_short(task, *case)]
        if short:
            with self.assertRaises(Short) as caught:
                made(task)
            self.is_first_short(task, short[0], caught.exception)
            answer = "short"
        elif task.field().size() < len(task.cases()):
            with self.assertRaises(Narrow) as caught:
                made(task)
            self.assertIs(caught.exception.__class__, Narrow)
            answer = "narrow"
        else:
            self.is_good(task, made(task))
            answer = "made" if task.field().size() > len(task.cases()) else "just made"
        self.assertTrue(task == copy)
        return answer

    def is_first_short(self, task, case, error):
        self.assertIs(error.__class__, Short)
        self.assertEqual((error.hearer, error.loss), case)
        self.assertIsInstance(error.within, list)
        self.assertEqual(error.within, sorted(set(error.within)))
        self.assertTrue(set(error.within) <= set(task.net().houses()))
        self.assertIn(task.source(), error.within)
        self.assertNotIn(error.hearer, error.within)
        self.assertLess(helper.breadth(task.net().lines(), error.within, error.loss), task.letters())

    def is_good(self, task, plan):
        self.assertIsInstance(plan, Plan)
        self.assertTrue(plan.task() == task)
        self.assertIs(plan.good(), True)
        size, net = task.field().size(), task.net()
        for loss in [()] + task.losses():
            heads = helper.heads(size, task.letters(), task.source(), net.lines(), plan.mixers(), loss)
            for hearer in task.hearers():
                self.assertEqual(helper.rank(size, [heads[number] for number in net.into(hearer)]), task.letters())

    def test_samples_of_all_sizes(self):
        chance, met = random.Random(10), set()
        for size in helper.SIZES:
            for sample in range(30):
                answer = self.looked_at(sample_task(chance, 20, 1 + sample % 2, size))
                met.add((size, answer))
        for size in helper.SIZES:
            self.assertIn((size, "short"), met)
            self.assertIn((size, "made"), met)
        self.assertTrue({(2, "narrow"), (3, "narrow"), (4, "narrow"), (5, "narrow")} <= met)

    def test_as_many_cases_as_numbers(self):
        # s reaches five houses, and each hearer hears all of these: any one of the five may be lost.
        middle = "abcde"
        text = " ".join(["s" + house for house in middle] + [house + hearer for house in middle for hearer in "wxyz"])
        for size, hearers, losses in ((2, "wx", []), (2, "w", [(1,)]), (3, "wyz", []), (3, "z", [(2,), (3,)]),
                                      (4, "wxyz", []), (4, "xy", [(1,)]), (8, "wxyz", [(1,)]), (9, "wxy", [(4,), (5,)]),
                                      (16, "wxyz", [(1,), (2,), (3,)])):
            for letters in (1, 2, 3, 4):
                task = Task(helper.pairs_net(text), "s", list(hearers), letters=letters, losses=losses, size=size)
                self.assertEqual(self.looked_at(task), "just made")
            more = Task(helper.pairs_net(text), "s", list("wxyz"), letters=2, losses=[(1,), (2,), (3,)], size=size)
            self.assertEqual(self.looked_at(more), "just made" if size == 16 else "narrow")

    def test_each_pair_of_four_middle_houses(self):
        # Four hearers on pairs of the middle houses: in the field of 2 there is no good plan for all pairs.
        pairs = ["ab", "ac", "ad", "bc", "bd", "cd"]
        for chosen in combinations(pairs, 4):
            text = "sa sb sc sd " + " ".join(house + hearer for hearer, pair in zip("wxyz", chosen) for house in pair)
            for size in helper.SIZES:
                task = Task(helper.pairs_net(text), "s", list("wxyz"), size=size)
                answer = "narrow" if size < 4 else "just made" if size == 4 else "made"
                self.assertEqual(self.looked_at(task), answer)

    def test_lines_side_by_side_with_losses(self):
        for letters, size in product((1, 2, 3), (4, 5, 16)):
            net = helper.net_of("sax", [(number, "s", "a", 1) for number in range(1, 6)]
                                + [(number, "a", "x", 1) for number in range(6, 11)])
            task = Task(net, "s", ["x"], letters=letters, losses=[(1, 6), (1, 2, 7, 8), (3, 9)], size=size)
            self.assertEqual(self.looked_at(task), "just made" if size == 4 else "made")

    def test_short_ahead_of_narrow(self):
        net = helper.pairs_net("sa sa ab sx")
        task = Task(net, "s", ["a", "b", "x"], losses=[(4,)], size=2)
        with self.assertRaises(Short) as caught:
            made(task=task)
        self.assertEqual((caught.exception.hearer, caught.exception.loss), ("b", ()))
        task = Task(net, "s", ["a"], losses=[(4,), (1,)], size=2)
        with self.assertRaises(Short) as caught:
            made(task)
        self.assertEqual((caught.exception.hearer, caught.exception.loss), ("a", (1,)))
        self.assertRaises(Narrow, made, Task(net, "s", ["a"], losses=[(3,), (4,)], size=2))

    def test_hearers_that_send_on_and_lines_into_the_source(self):
        net = helper.pairs_net("rs ra sa sa ab ab bc ac rc")
        for size in helper.SIZES:
            task = Task(net, "s", ["c", "b", "a"], size=size)
            self.assertEqual(self.looked_at(task), "narrow" if size == 2 else "just made" if size == 3 else "made")

    def test_full_tasks(self):
        chance, met = random.Random(11), []
        for sample in range(40):
            task = sample_task(chance, 30, 1, 16)
            met.append(self.looked_at(task))
        self.assertGreater(met.count("made") + met.count("just made"), 10)


class TestMixersFor(unittest.TestCase):
    def test_as_many_tests_as_numbers(self):
        for size, width in ((2, 1), (2, 2), (2, 4), (3, 2), (4, 2), (5, 2)):
            rows = [row for row in helper.all_rows(size, width) if any(row)]
            chance = random.Random(size)
            for many in range(size + 1):
                chosen = list(combinations(rows, many))
                for tests in chance.sample(chosen, min(len(chosen), 400)):
                    mixers = mixers_for(Field(size), width, chance.sample(tests, many))
                    self.assertEqual(len(mixers), width)
                    for test in tests:
                        products = [(helper.times(size, one, other),) for one, other in zip(mixers, test)]
                        self.assertNotEqual(helper.mix(size, 1, products, [1] * width), (0,))


if __name__ == "__main__":
    unittest.main()
