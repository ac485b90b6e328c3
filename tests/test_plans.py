import random
import unittest
from itertools import product

import helper
from mingleway.errors import BadPlan, BadRow, NoHouse, NoLine, Unsolved
from mingleway.plans import Plan
from mingleway.tasks import Task

BUTTERFLY = "sa sb ac bc cd ax dx by dy"
# In each field this serves both hearers.
COMMON = {1: (1, 0), 2: (0, 1), 3: (1,), 4: (1,), 5: (1, 1), 6: (1,), 7: (1,), 8: (1,), 9: (1,)}


def butterfly(**words):
    return Task(helper.pairs_net(BUTTERFLY), "s", ["x", "y"], **words)


def samples(many=60):
    """Plans without a pattern, and the chance to draw more from."""
    chance = random.Random(9)
    for sample in range(many):
        houses = list("sabcdeft"[:chance.randint(3, 8)])
        lines = helper.sample_lines(chance, houses, chance.randint(3, 14), True)
        source = houses[chance.choice((0, 0, 0, 1))]
        numbers = [line[0] for line in lines]
        others = [house for house in houses if house != source]
        task = Task(helper.net_of(houses, lines), source, chance.sample(others, min(3, len(others))),
                    letters=chance.choice((1, 1, 2, 2, 3, 4)), size=chance.choice(helper.SIZES),
                    losses=list({tuple(sorted(chance.sample(numbers, chance.randint(1, 2)))) for _ in range(sample % 4)}))
        mixers = helper.sample_mixers(chance, task)
        yield task, mixers, Plan(task, mixers), chance


def heads_by_the_words(task, mixers, loss=()):
    return helper.heads(task.field().size(), task.letters(), task.source(), task.net().lines(), mixers, loss)


def served_by_the_words(task, mixers, house, loss=()):
    heads = heads_by_the_words(task, mixers, loss)
    rows = [heads[number] for number in task.net().into(house)]
    return helper.rank(task.field().size(), rows) == task.letters()


def some_losses(chance, task):
    """Those of the task, and others that need not rise."""
    numbers = [line[0] for line in task.net().lines()]
    others = [tuple(chance.choices(numbers, k=many)) for many in (1, 2, 3)]
    return [(), *task.losses(), *others, tuple(numbers[::-1])]


class TestPlan(helper.RefusalCase):
    def test_task_and_mixers(self):
        for task, mixers, plan, _ in samples():
            self.assertTrue(plan.task() == task)
            self.assertIsInstance(plan.task(), Task)
            self.assertEqual(plan.mixers(), mixers)
        plan = Plan(mixers=COMMON, task=butterfly())
        self.assertEqual(plan.mixers(), COMMON)

    def test_a_net_without_lines(self):
        plan = Plan(Task(helper.net_of("sx", []), "s", ["x"]), {})
        self.assertEqual((plan.mixers(), plan.heads(), plan.good(), plan.bad_cases()), ({}, {}, False, [("x", ())]))
        self.assertEqual(plan.carried([(1,), (2,)]), {})

    def test_alike(self):
        plan = Plan(butterfly(), COMMON)
        backwards = {number: COMMON[number] for number in sorted(COMMON, reverse=True)}
        self.assertTrue(plan == Plan(butterfly(), backwards))
        self.assertFalse(plan != Plan(butterfly(), backwards))
        others = [Plan(butterfly(), {**COMMON, 5: (1, 2)}), Plan(butterfly(size=9), COMMON),
                  Plan(butterfly(losses=[(1,)]), COMMON)]
        for other in others:
            self.assertFalse(plan == other)
            self.assertTrue(plan != other)
        for thing in (None, 3, "", [], COMMON, plan.task(), object()):
            self.assertFalse(plan == thing)
            self.assertTrue(plan != thing)

    def test_what_was_handed_in_may_be_changed_and_is_not(self):
        net, mixers = helper.pairs_net(BUTTERFLY), dict(COMMON)
        plan = Plan(Task(net, "s", ["x", "y"]), mixers)
        self.assertEqual(mixers, COMMON)
        heads = plan.heads()
        mixers[1] = (0, 0)
        del mixers[9]
        net.cut(3)
        self.assertEqual((plan.mixers(), plan.heads(), plan.good()), (COMMON, heads, True))

    def test_what_is_told_may_be_changed(self):
        plan = Plan(butterfly(losses=[(1,)]), COMMON)
        words = [(1, 2), (3, 4)]
        came = {number: plan.carried(words)[number] for number in (6, 7)}
        for ask in (plan.mixers, plan.heads, plan.bad_cases, lambda: plan.carried(words),
                    lambda: plan.solved("x", came)):
            right = ask()
            ask().clear()
            self.assertEqual(ask(), right)
        plan.task().net().cut(1)
        plan.task().hearers().clear()
        self.assertTrue(plan.task() == butterfly(losses=[(1,)]))


class TestBadPlan(helper.RefusalCase):
    def test_each_kind(self):
        task = butterfly(size=9)
        wrong = [{}, {**COMMON, 10: (1,)}, {**COMMON, 0: ()}, {**COMMON, -1: (1, 0)}, {**COMMON, helper.LONG: (1,)}]
        for number, row in COMMON.items():
            wrong.append({line: mixers for line, mixers in COMMON.items() if line != number})
            wrong.append({(10 if line == number else line): mixers for line, mixers in COMMON.items()})
            for bad in (row[1:], row + (0,), (), row + row, row[1:] + (9,), (-1,) + row[1:], row[1:] + (helper.LONG,)):
                wrong.append({**COMMON, number: bad})
        for mixers in wrong:
            handed = dict(mixers)
            with self.subTest(mixers=mixers):
                self.refused(BadPlan, lambda: Plan(task, handed))
                self.assertEqual(handed, mixers)
        self.assertTrue(task == butterfly(size=9))

    def test_numbers_of_each_field(self):
        for size in helper.SIZES:
            Plan(butterfly(size=size), {**COMMON, 5: (size - 1, 0)})
            self.refused(BadPlan, lambda: Plan(butterfly(size=size), {**COMMON, 5: (size, 0)}))

    def test_lines_out_of_a_house_into_which_none_leads(self):
        task = Task(helper.pairs_net("sa ra"), "s", ["a"], letters=1)
        self.assertEqual(Plan(task, {1: (3,), 2: ()}).heads(), {1: (3,), 2: (0,)})
        self.refused(BadPlan, lambda: Plan(task, {1: (3,), 2: (0,)}))


class TestHeads(helper.RefusalCase):
    def test_under_losses_told_and_others(self):
        for task, mixers, plan, chance in samples():
            self.assertEqual(plan.heads(), heads_by_the_words(task, mixers))
            for loss in some_losses(chance, task):
                wanted = heads_by_the_words(task, mixers, loss)
                self.assertEqual(plan.heads(loss), wanted)
                self.assertEqual(plan.heads(loss=loss), wanted)
                self.assertTrue(all(isinstance(head, tuple) for head in plan.heads(loss).values()))
            self.assertEqual(plan.heads(), heads_by_the_words(task, mixers))

    def test_by_hand(self):
        plan = Plan(butterfly(), {**COMMON, 5: (3, 2)})
        self.assertEqual(plan.heads(), {
            1: (1, 0), 2: (0, 1), 3: (1, 0), 4: (0, 1), 5: (3, 2), 6: (1, 0), 7: (3, 2), 8: (0, 1), 9: (3, 2)})
        self.assertEqual(plan.heads((3,)), {
            1: (1, 0), 2: (0, 1), 3: (0, 0), 4: (0, 1), 5: (0, 2), 6: (1, 0), 7: (0, 2), 8: (0, 1), 9: (0, 2)})

    def test_what_comes_to_the_source_is_not_sent_on(self):
        task = Task(helper.pairs_net("rs sa ra"), "s", ["a"], letters=1)
        self.assertEqual(Plan(task, {1: (), 2: (5,), 3: ()}).heads(), {1: (0,), 2: (5,), 3: (0,)})

    def test_lost_lines_that_there_are_not(self):
        plan = Plan(butterfly(), COMMON)
        for loss, number in (((10,), 10), ((1, 77, 66), 77), ((0,), 0), ((helper.LONG,), helper.LONG)):
            self.refused(NoLine, lambda: plan.heads(loss), number=number)
            self.refused(NoLine, lambda: plan.served("x", loss), number=number)


class TestServed(helper.RefusalCase):
    def test_every_house(self):
        met = set()
        for task, mixers, plan, chance in samples():
            for loss, house in product(some_losses(chance, task), task.net().houses()):
                wanted = served_by_the_words(task, mixers, house, loss)
                met.add((wanted, house == task.source()))
                self.assertIs(plan.served(house, loss), wanted)
                self.assertIs(plan.served(hearer=house, loss=loss), wanted)
            for house in task.net().houses():
                self.assertIs(plan.served(house), served_by_the_words(task, mixers, house))
        self.assertEqual(met, {(True, False), (False, False), (False, True)})

    def test_houses_that_there_are_not_come_first(self):
        plan = Plan(butterfly(), COMMON)
        for name in ("k", "", "xx"):
            self.refused(NoHouse, lambda: plan.served(name), name=name)
            self.refused(NoHouse, lambda: plan.served(name, (77,)), name=name)

    def test_good_and_bad_cases(self):
        met = set()
        for task, mixers, plan, _ in samples(150):
            bad = [(hearer, loss) for hearer, loss in task.cases()
                   if not served_by_the_words(task, mixers, hearer, loss)]
            self.assertEqual(plan.bad_cases(), bad)
            self.assertIs(plan.good(), not bad)
            met.add((len(bad) == 0, len(bad) == len(task.cases())))
        self.assertEqual(met, {(True, False), (False, True), (False, False)})

    def test_by_hand(self):
        for size in helper.SIZES:
            plan = Plan(butterfly(size=size, losses=[(3,), (1, 5), (6,)]), COMMON)
            self.assertEqual(plan.bad_cases(), [("x", (1, 5)), ("x", (6,)), ("y", (3,)), ("y", (1, 5))])
            self.assertFalse(plan.good())
            self.assertTrue(Plan(butterfly(size=size), COMMON).good())
        # Which houses hear has nothing to do with the source's own lines in.
        task = Task(helper.pairs_net("rs sa"), "s", ["a"], letters=1)
        self.assertIs(Plan(task, {1: (), 2: (1,)}).served("s"), False)


class TestCarried(helper.RefusalCase):
    def test_words_of_one_to_five_numbers(self):
        for task, mixers, plan, chance in samples():
            size, letters = task.field().size(), task.letters()
            for width, loss in product(range(1, 6), some_losses(chance, task)):
                words = [tuple(chance.randrange(size) for _ in range(width)) for _ in range(letters)]
                handed = list(words)
                heads = heads_by_the_words(task, mixers, loss)
                wanted = {number: helper.mix(size, width, words, head) for number, head in heads.items()}
                self.assertEqual(plan.carried(handed, loss=loss), wanted)
                self.assertEqual(handed, words)
            self.assertEqual(plan.carried(words=words), plan.carried(words, loss=()))

    def test_bad_words_come_ahead_of_lost_lines(self):
        plan = Plan(butterfly(size=9), COMMON)
        wrong = [[], [(1, 2)], [(1,), (2,), (3,)], [(1, 2), (3,)], [(1,), (2, 3)], [(), ()], [(), (1,)], [(1,), ()],
                 [(1, 9), (0, 0)], [(0, 0), (-1, 0)], [(0,), (helper.LONG,)]]
        for words in wrong:
            handed = list(words)
            self.refused(BadRow, lambda: plan.carried(handed))
            self.refused(BadRow, lambda: plan.carried(handed, loss=(77,)))
            self.assertEqual(handed, words)
        self.refused(NoLine, lambda: plan.carried([(1,), (8,)], loss=(9, 77, 66)), number=77)
        with self.assertRaises(TypeError):
            plan.carried([(1,), (8,)], (1,))


class TestSolved(helper.RefusalCase):
    def test_every_house(self):
        met = set()
        for task, mixers, plan, chance in samples():
            size, letters = task.field().size(), task.letters()
            for width, loss, house in product((1, 2, 5), some_losses(chance, task), task.net().houses()):
                words = [tuple(chance.randrange(size) for _ in range(width)) for _ in range(letters)]
                carried = plan.carried(words, loss=loss)
                came = {number: carried[number] for number in task.net().into(house)}
                handed = dict(came)
                served = served_by_the_words(task, mixers, house, loss)
                met.add(served)
                if served:
                    self.assertEqual(plan.solved(house, handed, loss=loss), words)
                else:
                    self.refused(Unsolved, lambda: plan.solved(house, handed, loss=loss))
                self.assertEqual(handed, came)
        self.assertEqual(met, {True, False})

    def test_rows_that_are_bent(self):
        met = {True: 0, False: 0}
        for task, mixers, plan, chance in samples(150):
            size, letters = task.field().size(), task.letters()
            for loss, house in product(some_losses(chance, task)[:3], task.net().houses()):
                numbers = task.net().into(house)
                if not numbers or not plan.served(house, loss):
                    continue
                heads = heads_by_the_words(task, mixers, loss)
                came = plan.carried([(at % size, 1) for at in range(letters)], loss=loss)
                came = {number: came[number] for number in numbers}
                bent = chance.choice(numbers)
                first, second = came[bent]
                came[bent] = (first, helper.plus(size, second, chance.randrange(1, size)))
                long_rows = [heads[number] + came[number] for number in numbers]
                fit = helper.rank(size, long_rows) == letters
                met[fit] += 1
                if not fit:
                    self.refused(Unsolved, lambda: plan.solved(house, came, loss=loss))
                    continue
                words = plan.solved(house, came, loss=loss)
                self.assertEqual(came, {number: helper.mix(size, 2, words, heads[number]) for number in numbers})
        self.assertGreater(min(met.values()), 10)

    def test_by_hand(self):
        plan = Plan(butterfly(), COMMON)
        self.assertEqual(plan.solved("x", {6: (5,), 7: (0,)}), [(5,), (5,)])
        self.assertEqual(plan.solved(hearer="x", came={7: (9, 0), 6: (5, 1)}, loss=(8,)), [(5, 1), (12, 1)])
        # By a lost line noughts come.
        task = Task(helper.pairs_net("sx sx"), "s", ["x"], letters=1)
        plan = Plan(task, {1: (1,), 2: (1,)})
        self.assertEqual(plan.solved("x", {1: (0, 0), 2: (4, 5)}, loss=(1,)), [(4, 5)])
        self.refused(Unsolved, lambda: plan.solved("x", {1: (0, 1), 2: (4, 5)}, loss=(1,)))
        self.refused(Unsolved, lambda: plan.solved("x", {1: (4, 4), 2: (4, 5)}))
        self.assertEqual(plan.solved("x", {1: (4, 5), 2: (4, 5)}), [(4, 5)])

    def test_refusals_in_order(self):
        plan = Plan(butterfly(size=9), COMMON)
        good = {6: (1, 2), 7: (3, 4)}
        bad = [{}, {6: (1, 2)}, {**good, 8: (1, 1)}, {6: (1, 2), 9: (3, 4)}, {6: (1, 2), 7: (3,)}, {6: (1,), 7: (3, 4)},
               {6: (), 7: ()}, {6: (), 7: (1,)}, {6: (9, 0), 7: (3, 4)}, {6: (1, 2), 7: (3, -1)}, {6: (1,), 7: (helper.LONG,)}]
        for came in bad + [good]:
            for loss in ((), (77,), (6, 78, 77), (6,)):
                self.refused(NoHouse, lambda: plan.solved("k", came, loss=loss), name="k")
        for came in bad + [good]:
            handed = dict(came)
            self.refused(NoLine, lambda: plan.solved("x", handed, loss=(6, 78, 77)), number=78)
            self.assertEqual(handed, came)
        for came in bad:
            handed = dict(came)
            for loss in ((), (6,)):
                self.refused(BadRow, lambda: plan.solved("x", handed, loss=loss))
            self.assertEqual(handed, came)
        self.refused(Unsolved, lambda: plan.solved("x", good, loss=(6,)))
        self.refused(Unsolved, lambda: plan.solved("d", {5: (1, 2)}))
        with self.assertRaises(TypeError):
            plan.solved("x", good, ())

    def test_a_house_into_which_no_line_leads(self):
        plan = Plan(butterfly(), COMMON)
        self.refused(Unsolved, lambda: plan.solved("s", {}))
        self.refused(BadRow, lambda: plan.solved("s", {1: (1, 2)}))
        self.refused(NoLine, lambda: plan.solved("s", {}, loss=(77,)), number=77)


if __name__ == "__main__":
    unittest.main()
