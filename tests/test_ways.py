import random
import unittest
from itertools import product

import helper
from mingleway.errors import BadHearers, BadNumber, NoHouse, NoLine
from mingleway.ways import breadth, cut, ways, wide

HOUSES = list("abcdefg")


def samples():
    """Nets with rings and without, two of their houses, and lost lines."""
    chance = random.Random(6)
    for sample in range(120):
        houses = HOUSES[:chance.randint(2, 7)]
        chance.shuffle(houses)
        lines = helper.sample_lines(chance, houses, chance.randint(0, 24), sample % 3 == 0)
        source, hearer = (houses[0], houses[-1]) if sample % 2 else chance.sample(houses, 2)
        numbers = [line[0] for line in lines]
        lost = tuple(chance.sample(numbers, min(len(numbers), chance.choice((0, 0, 1, 2, 5)))))
        yield houses, lines, source, hearer, lost


class WaysCase(unittest.TestCase):
    def is_ways(self, lines, source, hearer, lost, told):
        """That these are ways: each is walked by its lines, and no line comes twice."""
        ends = {number: (one, other) for number, one, other, _ in lines}
        self.assertIsInstance(told, list)
        used = [number for way in told for number in way]
        self.assertEqual(len(set(used)), len(used))
        self.assertEqual(set(used) & set(lost), set())
        for way in told:
            self.assertIsInstance(way, list)
            at = source
            for number in way:
                self.assertEqual(ends[number][0], at)
                at = ends[number][1]
            self.assertEqual(at, hearer)

    def is_cut(self, houses, lines, source, hearer, lost, many, told):
        self.assertIsInstance(told, list)
        self.assertEqual(told, sorted(set(told)))
        self.assertTrue(set(told) <= set(houses))
        self.assertIn(source, told)
        self.assertNotIn(hearer, told)
        self.assertLess(helper.breadth(lines, told, lost), many)


class TestWays(WaysCase):
    def test_just_one_of_ways_and_a_cut(self):
        met = set()
        for houses, lines, source, hearer, lost in samples():
            net = helper.net_of(houses, lines)
            copy = net.twin()
            most = helper.least_breadth(houses, lines, source, hearer, lost)
            with self.subTest(lines=lines, source=source, hearer=hearer, lost=lost):
                self.assertEqual(wide(net, source, hearer, lost=lost), most)
                for many in range(1, 6):
                    found = ways(net, source, hearer, many, lost=lost)
                    within = cut(net, source, hearer, many, lost=lost)
                    met.add((many, many <= most))
                    if many <= most:
                        self.is_ways(lines, source, hearer, lost, found)
                        self.assertEqual(len(found), many)
                        self.assertIsNone(within)
                    else:
                        self.assertIsNone(found)
                        self.is_cut(houses, lines, source, hearer, lost, many, within)
                self.assertTrue(net == copy)
        self.assertEqual(len(met), 10)

    def test_without_losses_told(self):
        for houses, lines, source, hearer, _ in samples():
            net = helper.net_of(houses, lines)
            most = helper.least_breadth(houses, lines, source, hearer)
            self.assertEqual(wide(net, source, hearer), most)
            self.assertEqual(ways(net, source, hearer, most + 1), None)
            self.is_cut(houses, lines, source, hearer, (), most + 1, cut(net, source, hearer, most + 1))
            if most:
                self.is_ways(lines, source, hearer, (), ways(net, source, hearer, most))

    def test_a_way_that_must_be_given_up_for_two(self):
        # The shortest way, 1 2 3, hinders both others.
        net = helper.pairs_net("sa ab bt sc cb ad dt")
        self.assertEqual(wide(net, "s", "t"), 2)
        self.assertEqual(sorted(ways(net, "s", "t", 2)), [[1, 6, 7], [4, 5, 3]])

    def test_lines_side_by_side_and_the_other_way_round(self):
        net = helper.pairs_net("ab ab ba ab ba")
        self.assertEqual(sorted(ways(net, "a", "b", 3)), [[1], [2], [4]])
        self.assertEqual(sorted(ways(net, "b", "a", 2)), [[3], [5]])
        self.assertEqual(cut(net, "b", "a", 3), ["b"])
        self.assertEqual(wide(net, "a", "b", lost=(2, 1)), 1)
        self.assertEqual(wide(net, "a", "b", lost=(1, 1, 2, 4, 4)), 0)

    def test_no_way_at_all(self):
        net = helper.net_of("abc", [(1, "b", "a", 1), (2, "c", "b", 1)])
        self.assertEqual((wide(net, "a", "c"), ways(net, "a", "c", 1), cut(net, "a", "c", 1)), (0, None, ["a"]))
        self.assertEqual(wide(net, "c", "a", lost=(1,)), 0)

    def test_many_beyond_all_bounds(self):
        net = helper.pairs_net("ab ab bc")
        self.assertIsNone(ways(net, "a", "c", helper.LONG))
        self.is_cut("abc", net.lines(), "a", "c", (), helper.LONG, cut(net, "a", "c", helper.LONG))

    def test_thirty_lines_side_by_side(self):
        net = helper.net_of("ab", [(number, "a", "b", 1) for number in range(70, 100)])
        self.assertEqual(wide(net, "a", "b"), 30)
        self.assertEqual(sorted(ways(net, "a", "b", 30)), [[number] for number in range(70, 100)])
        self.assertEqual(cut(net, "a", "b", 31), ["a"])

    def test_a_full_net(self):
        chance, names = random.Random(7), list("abcdefghijkl")
        for again in range(4):
            lines = helper.sample_lines(chance, names, 30, again % 2)
            net = helper.net_of(names, lines)
            most = helper.least_breadth(names, lines, "a", "l")
            self.assertEqual(wide(net, "a", "l"), most)
            self.is_cut(names, lines, "a", "l", (), most + 1, cut(net, "a", "l", most + 1))

    def test_called_by_keywords(self):
        net = helper.pairs_net("ab ab")
        self.assertEqual(wide(net=net, source="a", hearer="b", lost=(1,)), 1)
        self.assertEqual(ways(net=net, source="a", hearer="b", many=1, lost=(1,)), [[2]])
        self.assertEqual(cut(net=net, source="a", hearer="b", many=2, lost=(1,)), ["a"])
        self.assertEqual(breadth(net=net, houses=["a"], lost=(1,)), 1)
        for call in (lambda: wide(net, "a", "b", (1,)), lambda: ways(net, "a", "b", 1, ()),
                     lambda: cut(net, "a", "b", 1, ()), lambda: breadth(net, ["a"], ())):
            self.assertRaises(TypeError, call)

    def test_told_lists_may_be_changed(self):
        net = helper.pairs_net("ab bc ac")
        for ask in (lambda: ways(net, "a", "c", 2), lambda: cut(net, "a", "c", 3)):
            right = repr(ask())
            ask().clear()
            self.assertEqual(repr(ask()), right)
        ways(net, "a", "c", 2)[0].clear()
        self.assertEqual(sorted(ways(net, "a", "c", 2)), [[1, 2], [3]])


class TestBreadth(unittest.TestCase):
    def test_of_all_lists_of_houses(self):
        for houses, lines, _, _, lost in samples():
            net = helper.net_of(houses, lines)
            for chosen in product((True, False), repeat=min(len(houses), 5)):
                within = [house for house, take in zip(houses, chosen) if take]
                handed = list(within)
                self.assertEqual(breadth(net, handed, lost=lost), helper.breadth(lines, within, lost))
                self.assertEqual(handed, within)
            self.assertEqual(breadth(net, houses[::-1]), 0)
            self.assertEqual(breadth(net, [houses[0]] * 3), len(net.out_of(houses[0])))

    def test_refusals_in_order(self):
        net = helper.pairs_net("ab bc")
        cases = [(["a", "x", "y"], (9, 8), NoHouse, "x"), (["y", "x"], (), NoHouse, "y"), ([""], (1,), NoHouse, ""),
                 (["a"], (1, 9, 8), NoLine, 9), ([], (0,), NoLine, 0), (["a", "b"], (helper.LONG,), NoLine, helper.LONG)]
        for houses, lost, error, field in cases:
            with self.assertRaises(error) as caught:
                breadth(net, houses, lost=lost)
            self.assertEqual(vars(caught.exception), {"name" if error is NoHouse else "number": field})
        self.assertTrue(net == helper.pairs_net("ab bc"))


class TestRefusals(unittest.TestCase):
    def due(self, source, hearer, lost, many):
        if source in "xy":
            return NoHouse, {"name": source}
        if hearer in "xy":
            return NoHouse, {"name": hearer}
        if source == hearer:
            return BadHearers, {}
        wrong = [number for number in lost if number not in (1, 2, 3)]
        if wrong:
            return NoLine, {"number": wrong[0]}
        return (BadNumber, {}) if many < 1 else None

    def test_several_at_once(self):
        net = helper.pairs_net("ab bc ca")
        copy = net.twin()
        asked = product("abx", "aby", ((), (2,), (3, 7, 4), (0,), (-helper.LONG, 1)), (1, 2, 0, -1, -helper.LONG))
        for source, hearer, lost, many in asked:
            for call in (ways, cut):
                due = self.due(source, hearer, lost, many)
                if due:
                    self.refused(due, lambda: call(net, source, hearer, many, lost=lost))
                else:
                    call(net, source, hearer, many, lost=lost)
            due = self.due(source, hearer, lost, 1)
            if due:
                self.refused(due, lambda: wide(net, source, hearer, lost=lost))
            else:
                wide(net, source, hearer, lost=lost)
        self.assertTrue(net == copy)

    def refused(self, due, call):
        error, fields = due
        with self.assertRaises(error) as caught:
            call()
        self.assertIs(caught.exception.__class__, error)
        self.assertEqual(vars(caught.exception), fields)


if __name__ == "__main__":
    unittest.main()
