import random
import unittest
from itertools import product

import helper
from mingleway.errors import BadNumber, Heavy, Short
from mingleway.fields import SIZES
from mingleway.least import MOST_TRIES, copying_tries, first_copying, first_plan, least_size, tries
from mingleway.plans import Plan
from mingleway.tasks import Task

BUTTERFLY = "sa sb ac bc cd ax dx by dy"
WRONG_MOST = (0, -1, -helper.LONG, MOST_TRIES + 1, MOST_TRIES + 2, 10000, helper.LONG)
TRIED = 300


def task_of(text, hearers, **words):
    return Task(helper.pairs_net(text), "s", list(hearers), **words)


def inputs(task):
    return {line[0]: task.inputs(line[0]) for line in task.net().lines()}


def all_plans(task, *, copying=False):
    """The mixers of all plans, in the order of the document: compared as rows of rows."""
    size = task.field().size()
    choices = [helper.all_rows(size, many) for many in inputs(task).values()]
    if copying:
        choices = [[row for row in rows if set(row) <= {0, 1} and sum(row) <= 1] for rows in choices]
    return [dict(zip(inputs(task), pick)) for pick in sorted(product(*choices))]


def is_good(task, mixers):
    size, letters, lines = task.field().size(), task.letters(), task.net().lines()
    for hearer, loss in task.cases():
        heads = helper.heads(size, letters, task.source(), lines, mixers, loss)
        if helper.rank(size, [heads[number] for number in task.net().into(hearer)]) < letters:
            return False
    return True


def has_good(task):
    return any(is_good(task, mixers) for mixers in all_plans(task))


def samples():
    """Small tasks whose plans can all be gone through here, some of a net whose lines' numbers do not rise."""
    for size in (2, 3, 4):
        yield task_of("sc sc cx", "x", letters=1, losses=[(1,), (2,)], size=size)
    chance = random.Random(11)
    found = 0
    while found < 45:
        houses = list("sabxy")[:chance.randint(3, 5)]
        lines = helper.sample_lines(chance, houses, chance.randint(2, 7), True)
        numbers = [line[0] for line in lines]
        losses = list({(chance.choice(numbers),) for _ in range(chance.choice((0, 0, 1, 2)))})
        hearers = chance.sample(houses[1:], chance.choice((1, 1, 2)))
        task = Task(helper.net_of(houses, lines), "s", hearers, letters=chance.choice((1, 1, 2)), losses=losses,
                    size=chance.choice((2, 2, 3, 4, 5)))
        # Few of the others have a good plan at all.
        if task.field().size() ** sum(inputs(task).values()) <= TRIED and (task.short() is None or chance.randrange(8) == 0):
            found += 1
            yield task


class LeastCase(helper.RefusalCase):
    def assert_first(self, told, task, plans):
        wanted = next((mixers for mixers in plans if is_good(task, mixers)), None)
        if wanted is None:
            self.assertIsNone(told)
            return None
        self.assertIsInstance(told, Plan)
        self.assertEqual(told.mixers(), wanted)
        self.assertTrue(told.task() == task)
        self.assertTrue(told.good())
        return told


class TestTries(LeastCase):
    def test_against_all_plans(self):
        for task in samples():
            plans, copying = all_plans(task), all_plans(task, copying=True)
            self.assertEqual(tries(task), len(plans))
            self.assertEqual(copying_tries(task), len(copying))
            self.assertTrue(all(Plan(task, mixers).mixers() == mixers for mixers in plans[:20] + copying[-20:]))

    def test_by_hand(self):
        self.assertEqual(MOST_TRIES, 4096)
        for size in SIZES:
            task = task_of(BUTTERFLY, "xy", size=size)
            self.assertEqual(tries(task=task), size ** 12)
            self.assertEqual(copying_tries(task=task), 3 * 3 * 2 * 2 * 3 * 2 * 2 * 2 * 2)
        self.assertEqual(tries(task_of("sa sb", "a", letters=4, size=3)), 3 ** 8)
        self.assertEqual(copying_tries(task_of("sa sb", "a", letters=4, size=3)), 25)

    def test_no_mixers_at_all(self):
        alone = Task(helper.net_of("sx", []), "s", ["x"])
        # No line leads into a, so the line out of it mixes nothing.
        nothing = Task(helper.net_of("asx", [(1, "a", "x", 1)]), "s", ["x"])
        for task in (alone, nothing):
            self.assertEqual((tries(task), copying_tries(task)), (1, 1))
            self.assertIsNone(first_plan(task, most=1))
            self.assertIsNone(first_copying(task, most=1))

    def test_far_numbers(self):
        net = helper.net_of("abcdefghijks", [])
        for at in range(15):
            net.line("s", "a")
        for at in range(15):
            net.line("a", "b")
        task = Task(net, "s", ["b"], letters=4)
        self.assertEqual(tries(task), 16 ** (15 * 4 + 15 * 15))
        self.assertEqual(copying_tries(task), 5 ** 15 * 16 ** 15)
        self.refused(Heavy, lambda: first_plan(task), tries=16 ** 285)
        self.refused(Heavy, lambda: first_copying(task), tries=80 ** 15)


class TestFirst(LeastCase):
    def test_against_all_plans(self):
        met = []
        for task in samples():
            one = self.assert_first(first_plan(task), task, all_plans(task))
            other = self.assert_first(first_copying(task), task, all_plans(task, copying=True))
            met.append((one is None, other is None))
        self.assertEqual(set(met), {(True, True), (False, True), (False, False)})

    def test_by_hand(self):
        # The order is that of the lines' numbers, whichever way they lead: line 1 is the last one here.
        net = helper.net_of("sax", [(1, "a", "x", 1), (2, "s", "a", 1), (3, "s", "x", 1)])
        task = Task(net, "s", ["x"], letters=1, size=3)
        self.assertEqual(first_plan(task).mixers(), {1: (0,), 2: (0,), 3: (1,)})
        self.assertEqual(first_copying(task).mixers(), {1: (0,), 2: (0,), 3: (1,)})
        task = Task(net, "s", ["x"], letters=2, size=3)
        self.assertEqual(first_plan(task).mixers(), {1: (1,), 2: (0, 1), 3: (1, 0)})
        task = Task(net, "s", ["x"], letters=1, losses=[(3,)], size=4)
        self.assertEqual(first_plan(task).mixers(), {1: (1,), 2: (1,), 3: (0,)})

    def test_a_mixing_plan_ahead_of_the_first_copying_one(self):
        net = helper.net_of("scx", [(1, "c", "x", 1), (2, "s", "c", 1), (3, "s", "c", 1), (4, "s", "c", 1)])
        task = Task(net, "s", ["x"], letters=1, losses=[(3,), (4,)], size=3)
        self.assertEqual(first_plan(task).mixers(), {1: (0, 1, 1), 2: (0,), 3: (1,), 4: (1,)})
        self.assertEqual(first_copying(task).mixers(), {1: (1, 0, 0), 2: (1,), 3: (0,), 4: (0,)})

    def test_mixing_where_copying_is_not_enough(self):
        task = task_of(BUTTERFLY, "xy", size=2)
        self.assertEqual(tries(task), MOST_TRIES)
        self.assertIsNone(first_copying(task))
        self.assertEqual(first_plan(task).mixers(), {
            1: (0, 1), 2: (1, 0), 3: (1,), 4: (1,), 5: (1, 1), 6: (1,), 7: (1,), 8: (1,), 9: (1,)})
        self.assertIsNone(first_copying(task_of(BUTTERFLY, "xy", size=16)))

    def test_copying_where_all_plans_are_too_many(self):
        task = task_of(BUTTERFLY, "x", size=16)
        self.refused(Heavy, lambda: first_plan(task), tries=16 ** 12)
        self.assert_first(first_copying(task), task, all_plans(task.sized(2), copying=True))

    def test_most(self):
        task = task_of(BUTTERFLY, "x", size=2)
        small = task_of("sx", "x", letters=1, size=7)
        self.assertIsNotNone(first_plan(task, most=4096))
        self.refused(Heavy, lambda: first_plan(task, most=4095), tries=4096)
        self.refused(Heavy, lambda: first_plan(task.sized(3)), tries=3 ** 12)
        self.assertIsNotNone(first_copying(task, most=1728))
        self.assertIsNotNone(first_copying(task, most=MOST_TRIES))
        self.refused(Heavy, lambda: first_copying(task, most=1727), tries=1728)
        self.assertIsNotNone(first_plan(small, most=7))
        self.refused(Heavy, lambda: first_plan(small, most=6), tries=7)
        self.refused(Heavy, lambda: first_plan(small, most=1), tries=7)
        self.assertIsNotNone(first_copying(most=2, task=small))
        self.refused(Heavy, lambda: first_copying(small, most=1), tries=2)

    def test_a_wrong_most_ahead_of_too_many_tries(self):
        for call, most in product((first_plan, first_copying), WRONG_MOST):
            for task in (task_of(BUTTERFLY, "xy"), task_of("sx", "x", letters=1, size=2), task_of("sx", "x")):
                self.refused(BadNumber, lambda: call(task, most=most))
        for call in (first_plan, first_copying, least_size):
            with self.assertRaises(TypeError):
                call(task_of("sx", "x", letters=1), 10)

    def test_heavy_also_where_no_plan_can_be_good(self):
        self.refused(Heavy, lambda: first_plan(task_of("sx", "x", size=16), most=255), tries=256)
        self.assertIsNone(first_plan(task_of("sx", "x", size=16), most=256))
        self.refused(Heavy, lambda: first_copying(task_of("sx", "x"), most=2), tries=3)
        self.assertIsNone(first_copying(task_of("sx", "x"), most=3))

    def test_nothing_is_changed_and_all_is_afresh(self):
        task = task_of("sx sx", "x", size=2)
        mixers = first_plan(task).mixers()
        first_plan(task).mixers().clear()
        self.assertEqual(first_plan(task).mixers(), mixers)
        self.assertFalse(first_plan(task) is first_plan(task))
        self.assertTrue(task == task_of("sx sx", "x", size=2))


class TestLeastSize(LeastCase):
    def test_against_all_plans(self):
        met = set()
        for task in samples():
            if task.short() is not None:
                lack = task.short()
                self.refused(Short, lambda: least_size(task), hearer=lack[0], loss=lack[1], within=lack[2])
                continue
            if tries(task.sized(3)) > 2500:
                continue
            good = [size for size in (2, 3) if has_good(task.sized(size))]
            size = least_size(task)
            if good:
                self.assertEqual(size, good[0])
            else:
                self.assertGreater(size, 3)
            met.add(size)
        self.assertLessEqual({2, 3}, met)

    def test_sizes_that_need_no_plan(self):
        # Two cases, and so size 2, whatever the tries are.
        task = task_of(BUTTERFLY, "xy", size=16)
        for most in (1, 4095, MOST_TRIES):
            self.assertEqual(least_size(task, most=most), 2)
        self.assertEqual(least_size(task=task), 2)
        for most in WRONG_MOST:
            self.refused(BadNumber, lambda: least_size(task, most=most))

    def test_the_letter_that_two_lines_null(self):
        # In size 2 both lines into c carry the letter, since each may be lost; so their sum is 0.
        task = task_of("sc sc cx", "x", letters=1, losses=[(1,), (2,)], size=16)
        self.assertEqual(tries(task.sized(2)), 16)
        self.assertEqual(least_size(task, most=16), 3)
        self.refused(Heavy, lambda: least_size(task, most=15), tries=16)
        # A case more: now size 3 is tried, too.
        task = task_of("sc sc cx cd", "x", letters=1, losses=[(1,), (2,), (4,)], size=2)
        self.assertEqual((tries(task), tries(task.sized(3))), (64, 729))
        self.assertEqual(least_size(task, most=729), 3)
        self.refused(Heavy, lambda: least_size(task, most=728), tries=729)
        self.refused(Heavy, lambda: least_size(task, most=63), tries=64)

    def test_a_good_plan_in_a_size_below_the_cases(self):
        # Four cases, and size 2 is enough.
        task = task_of("sx sx sx", "x", losses=[(1,), (2,), (3,)], size=16)
        self.assertEqual(least_size(task, most=64), 2)
        self.refused(Heavy, lambda: least_size(task, most=63), tries=64)

    def test_each_size_told_is_the_first_that_has_a_good_plan(self):
        """Lines into c that may be lost one by one or two by two."""
        chance, met = random.Random(5), set()
        for sample in range(14):
            many = chance.choice((2, 3))
            losses = [tuple(sorted(chance.sample(range(1, many + 1), chance.randint(1, many - 1)))) for _ in range(3)]
            task = task_of("sc " * many + "cx cx"[:chance.choice((2, 5))], "x", letters=1, losses=list(set(losses)))
            if tries(task.sized(3)) > MOST_TRIES:
                continue
            size = least_size(task)
            for other in SIZES[:SIZES.index(size) + 1]:
                if other <= 3:
                    self.assertEqual(has_good(task.sized(other)), other == size)
            met.add(size)
        self.assertEqual(met, {2, 3})

    def test_refusals_in_order(self):
        shorts = [(task_of(BUTTERFLY, "xyd"), "d", ()), (task_of(BUTTERFLY, "xy", losses=[(3,)]), "y", (3,)),
                  (task_of("sx", "x", letters=4), "x", ())]
        for (task, hearer, loss), most in product(shorts, WRONG_MOST + (1, MOST_TRIES)):
            with self.assertRaises(Short) as caught:
                least_size(task, most=most)
            self.assertEqual((caught.exception.hearer, caught.exception.loss), (hearer, loss))
            within = caught.exception.within
            self.assertTrue("s" in within and hearer not in within)
            self.assertLess(helper.breadth(task.net().lines(), within, loss), task.letters())
        heavy = task_of(BUTTERFLY + " az bz", "xyz", size=16)
        for most in WRONG_MOST:
            self.refused(BadNumber, lambda: least_size(heavy, most=most))
        self.refused(Heavy, lambda: least_size(heavy), tries=2 ** 14)
        self.refused(Heavy, lambda: least_size(heavy, most=1), tries=2 ** 14)


if __name__ == "__main__":
    unittest.main()
