import random
import unittest
from itertools import product

import helper
from mingleway.errors import (
    BadLine, BadName, BadNumber, Full, InUse, NoHouse, NoLine, Ringed, Taken)
from mingleway.nets import Net

NAMES = ["a", "z", "ab", "ba", "abcdef", "zzzzzz", "house", "q", "aa", "c", "b", "mmm"]
WRONG_NAMES = ["", "abcdefg", "A", "aB", "a1", "7", "a b", " a", "a ", "a_", "a-b", "a\n", "\n", "~", "{", "`", "a" * 20000]


def told(net):
    """All that can be asked of a net."""
    houses = net.houses()
    numbers = [line[0] for line in net.lines()]
    return (houses, net.lines(), [net.into(house) for house in houses], [net.out_of(house) for house in houses],
            [net.ends(number) for number in numbers], net.ring() is None, len(net))


def full_net():
    """12 houses and 30 lines, of which the greatest has the number 40."""
    net = Net()
    for name in NAMES:
        net.house(name)
    for number in range(11, 41):
        net.line(NAMES[number % 12], NAMES[(number + 1 + number % 5) % 12], number=number)
    return net


class NetCase(unittest.TestCase):
    def refused(self, net, error, call, *args, **fields):
        """That the call is refused so, with these fields, and leaves the net as it was."""
        before, copy = told(net), net.twin()
        keywords = fields.pop("keywords", {})
        with self.assertRaises(error) as caught:
            call(*args, **keywords)
        self.assertIs(caught.exception.__class__, error)
        for field, value in fields.items():
            self.assertEqual(getattr(caught.exception, field), value)
        self.assertEqual(told(net), before)
        self.assertTrue(net == copy)


class TestHousesAndLines(NetCase):
    def test_a_new_net_has_nothing(self):
        net = Net()
        self.assertEqual((net.houses(), net.lines(), len(net), net.order(), net.ring()), ([], [], 0, [], None))

    def test_houses_by_names(self):
        net = Net()
        for at, name in enumerate(NAMES):
            self.assertIsNone(net.house(name))
            self.assertEqual(net.houses(), sorted(NAMES[:at + 1]))
            self.assertEqual((net.into(name), net.out_of(name)), ([], []))

    def test_lines_with_all_told_or_left_out(self):
        net = Net()
        for name in "cab":
            net.house(name)
        self.assertEqual(net.line("a", "b"), 1)
        self.assertEqual(net.line("a", "b", number=7), 7)
        self.assertEqual(net.line("c", "b", slow=4), 8)
        self.assertEqual(net.line("b", "a", slow=3, number=2), 2)
        self.assertEqual(net.line(other="c", one="a", number=None), 9)
        lines = [(1, "a", "b", 1), (2, "b", "a", 3), (7, "a", "b", 1), (8, "c", "b", 4), (9, "a", "c", 1)]
        self.assertEqual(net.lines(), lines)
        self.assertEqual([net.ends(line[0]) for line in lines], [line[1:] for line in lines])
        self.assertEqual([net.into(name) for name in "abc"], [[2], [1, 7, 8], [9]])
        self.assertEqual([net.out_of(name) for name in "abc"], [[1, 7, 9], [2], [8]])
        self.assertEqual(len(net), 5)

    def test_all_are_called_by_keywords_too(self):
        net = Net()
        net.house(name="a")
        net.house(name="b")
        net.line(one="a", other="b", slow=2, number=5)
        self.assertEqual((net.into(name="b"), net.out_of(name="a"), net.ends(number=5)), ([5], [5], ("a", "b", 2)))
        self.assertIsNone(net.cut(number=5))
        self.assertIsNone(net.drop(name="b"))
        self.assertEqual(net.houses(), ["a"])
        with self.assertRaises(TypeError):
            net.line("a", "b", 2)

    def test_the_next_number_goes_by_the_greatest_that_there_is(self):
        net = helper.net_of("ab", [(4, "a", "b", 1), (9, "b", "a", 1)])
        net.cut(4)
        self.assertEqual(net.line("a", "b"), 10)
        net.cut(10)
        net.cut(9)
        self.assertEqual(net.line("a", "b"), 1)

    def test_dropped_houses_and_cut_lines_are_gone_and_may_come_again(self):
        net = helper.pairs_net("ab bc")
        net.cut(2)
        net.drop("c")
        self.assertEqual(told(net), told(helper.pairs_net("ab")))
        net.house("c")
        net.line("b", "c", number=2)
        self.assertTrue(net == helper.pairs_net("ab bc"))


class TestBounds(NetCase):
    def test_names(self):
        net = helper.pairs_net("ab")
        for name in WRONG_NAMES:
            with self.subTest(name[:9]):
                self.refused(net, BadName, net.house, name)
        net = full_net()
        for name in WRONG_NAMES:
            self.refused(net, BadName, net.house, name)
        for name in NAMES:
            self.refused(net, Taken, net.house, name)
        for name in ("bb", "y"):
            self.refused(net, Full, net.house, name)

    def test_all_small_letters_are_let(self):
        for sign in "abcdefghijklmnopqrstuvwxyz":
            net = Net()
            net.house(sign * 6)
            self.assertEqual(net.houses(), [sign * 6])

    def test_twelve_houses(self):
        net = full_net()
        self.assertEqual(net.houses(), sorted(NAMES))
        net = Net()
        for name in NAMES[:11]:
            net.house(name)
        net.house("last")
        self.refused(net, Full, net.house, "more")
        net.drop("last")
        net.house("more")
        self.refused(net, Full, net.house, "last")

    def test_thirty_lines(self):
        net = full_net()
        self.assertEqual(len(net), 30)
        self.refused(net, Full, net.line, "a", "b")
        self.refused(net, Full, net.line, "a", "b", keywords={"number": 99})
        self.refused(net, Taken, net.line, "a", "b", keywords={"number": 40})
        net.cut(20)
        self.assertEqual(net.line("a", "b"), 41)
        self.refused(net, Full, net.line, "b", "a")

    def test_numbers_from_1_to_99(self):
        net = helper.net_of("ab", [])
        for number in (0, -1, 100, helper.LONG, -helper.LONG):
            self.refused(net, BadNumber, net.line, "a", "b", keywords={"number": number})
        self.assertEqual(net.line("a", "b", number=98), 98)
        self.assertEqual(net.line("a", "b"), 99)
        self.refused(net, BadNumber, net.line, "a", "b")
        self.assertEqual(net.line("a", "b", number=1), 1)
        self.refused(net, BadNumber, net.line, "a", "b")

    def test_the_next_number_is_beyond_ahead_of_full(self):
        net = full_net()
        net.cut(40)
        net.line("a", "b", number=99)
        self.refused(net, BadNumber, net.line, "a", "b")

    def test_slow_by_1_to_4(self):
        net = helper.net_of("ab", [])
        for slow in (0, -1, 5, helper.LONG):
            self.refused(net, BadNumber, net.line, "a", "b", keywords={"slow": slow})
        for slow in (1, 2, 3, 4):
            self.assertEqual(net.ends(net.line("a", "b", slow=slow)), ("a", "b", slow))


class TestRefusals(NetCase):
    def test_houses_that_there_are_not(self):
        net = helper.pairs_net("ab ac")
        for name in ("d", "", "aa", "A", "a\n"):
            for call in (net.drop, net.into, net.out_of):
                self.refused(net, NoHouse, call, name, name=name)

    def test_lines_that_there_are_not(self):
        net = helper.net_of("ab", [(5, "a", "b", 1)])
        for number in (0, 1, 4, 6, 99, -5, helper.LONG):
            for call in (net.cut, net.ends):
                self.refused(net, NoLine, call, number, number=number)

    def test_a_house_in_use(self):
        net = helper.net_of("abcd", [(8, "a", "b", 1), (5, "b", "c", 1), (7, "c", "a", 1), (9, "b", "a", 1)])
        for name, number in (("a", 7), ("b", 5), ("c", 5)):
            self.refused(net, InUse, net.drop, name, number=number)
        net.cut(5)
        self.refused(net, InUse, net.drop, "b", number=8)
        self.refused(net, InUse, net.drop, "c", number=7)
        net.drop("d")
        net.cut(7)
        net.drop("c")
        self.assertEqual(net.houses(), ["a", "b"])

    def test_a_line_refused_for_several_reasons_tells_the_first(self):
        roomy, full = helper.net_of(["a", "b"], [(3, "a", "b", 1)]), full_net()
        ends = [("x", "y", NoHouse, "x"), ("x", "a", NoHouse, "x"), ("x", "x", NoHouse, "x"), ("b", "y", NoHouse, "y"),
                ("b", "b", BadLine, None), ("b", "a", None, None)]
        slows = [(0, BadNumber), (5, BadNumber), (2, None)]
        numbers = [(0, BadNumber), (100, BadNumber), (None, None), (9, None)]
        for (one, other, bad_ends, name), (slow, bad_slow), (number, bad_number) in product(ends, slows, numbers):
            with self.subTest(one=one, other=other, slow=slow, number=number):
                words = {"slow": slow, "number": number}
                fields = {"name": name} if name else {}
                due = bad_ends or bad_slow or bad_number
                swapped = {"x": "nope", "y": "nor"}
                if due:
                    self.refused(roomy, due, roomy.line, one, other, keywords=words, **fields)
                    fields = {"name": swapped[name]} if name else {}
                one, other = swapped.get(one, one), swapped.get(other, other)
                self.refused(full, due or Full, full.line, one, other, keywords=words, **fields)
        for slow, due in slows:
            for net in (roomy, full):
                number = net.lines()[0][0]
                self.refused(net, due or Taken, net.line, "a", "b", keywords={"slow": slow, "number": number})

    def test_deeds_without_a_pattern(self):
        chance = random.Random(4)
        net, houses, lines, met = Net(), set(), {}, set()
        for step in range(1500):
            deed = chance.choice(("house",) * 2 + ("line",) * 8 + ("drop", "cut"))
            one, other = (chance.choice(NAMES + ["more", "", "abcdefg"]) for _ in range(2))
            slow, number = chance.randint(0, 5), chance.choice((None, None, chance.randint(-1, 101), 99, 30))
            if deed == "house":
                due = self.house_due(houses, one)
                call = lambda: net.house(one)
            elif deed == "line":
                due = self.line_due(houses, lines, one, other, slow, number)
                call = lambda: net.line(one, other, slow=slow, number=number)
            elif deed == "drop":
                used = [line for line in lines if one in lines[line][:2]]
                due = NoHouse if one not in houses else InUse if used else None
                call = lambda: net.drop(one)
            else:
                number = chance.choice(sorted(lines) + [0, 55])
                due = None if number in lines else NoLine
                call = lambda: net.cut(number)
            met.add(due)
            if due:
                self.refused(net, due, call)
                continue
            given = call()
            if deed == "house":
                houses.add(one)
            elif deed == "line":
                self.assertEqual(given, number or max(lines, default=0) + 1)
                lines[given] = (one, other, slow)
            elif deed == "drop":
                houses.remove(one)
            else:
                del lines[number]
            self.assertEqual(net.houses(), sorted(houses))
            self.assertEqual(net.lines(), [(number, *lines[number]) for number in sorted(lines)])
            for house in houses:
                self.assertEqual(net.into(house), sorted(n for n in lines if lines[n][1] == house))
                self.assertEqual(net.out_of(house), sorted(n for n in lines if lines[n][0] == house))
        self.assertEqual(met, {None, BadName, Taken, NoHouse, BadLine, BadNumber, Full, InUse, NoLine})

    def house_due(self, houses, name):
        return BadName if name in ("", "abcdefg") else Taken if name in houses else Full if len(houses) == 12 else None

    def line_due(self, houses, lines, one, other, slow, number):
        if one not in houses or other not in houses:
            return NoHouse
        if one == other:
            return BadLine
        number = max(lines, default=0) + 1 if number is None else number
        if slow not in (1, 2, 3, 4) or number not in range(1, 100):
            return BadNumber
        return Taken if number in lines else Full if len(lines) == 30 else None


class TestOrderAndRing(NetCase):
    def looked_at(self, net):
        """That there is just one of an order and a ring, and that it is one; tells the ring."""
        ring = net.ring()
        if ring is None:
            self.assertEqual(net.order(), self.order_by_the_words(net))
            return None
        self.assertIsNone(self.order_by_the_words(net))
        with self.assertRaises(Ringed) as caught:
            net.order()
        for around in (ring, caught.exception.around):
            self.assertIsInstance(around, list)
            ends = [net.ends(number) for number in around]
            for ahead, behind in zip(ends, ends[1:] + ends[:1]):
                self.assertEqual(ahead[1], behind[0])
            met = [one for one, other, slow in ends]
            self.assertEqual(len(set(met)), len(met))
            self.assertGreaterEqual(len(met), 2)
        return ring

    def order_by_the_words(self, net):
        told = []
        while len(told) < len(net.houses()):
            left = [house for house in net.houses() if house not in told]
            fit = [house for house in left if all(net.ends(line)[0] in told for line in net.into(house))]
            if not fit:
                return None
            told.append(min(fit))
        return told

    def test_orders(self):
        for text, order in (("ab", "ab"), ("ba", "ba"), ("ab cb bd", "acbd"), ("cb ca da", "cbda"), ("zx zy yx", "zyx"),
                            ("ab ac bd cd", "abcd"), ("dc db ca ba", "dbca"), ("ba ba ba", "ba")):
            net = helper.pairs_net(text)
            self.assertEqual(net.order(), list(order))
            self.assertIsNone(net.ring())
        self.assertEqual(helper.net_of(["b", "aa", "a"], []).order(), ["a", "aa", "b"])

    def test_rings(self):
        for text, ring in (("ab ba", {1, 2}), ("ab bc ca", {1, 2, 3}), ("ab bc cd db", {2, 3, 4}),
                           ("ab bc cb cd de", {2, 3}), ("ba ca bc cb", {3, 4})):
            net = helper.pairs_net(text)
            self.assertEqual(set(self.looked_at(net)), ring)

    def test_samples_with_lines_of_the_ring_cut_one_by_one(self):
        chance, rings = random.Random(5), 0
        for sample in range(60):
            houses = sorted(chance.sample(NAMES, chance.randint(2, 9)))
            chance.shuffle(houses)
            net = helper.net_of(houses, helper.sample_lines(chance, houses, chance.randint(0, 18), sample % 4 == 0))
            ring = self.looked_at(net)
            while ring is not None:
                rings += 1
                net.cut(chance.choice(ring))
                ring = self.looked_at(net)
            for house in houses:
                if not net.into(house) + net.out_of(house):
                    net.drop(house)
                    self.assertIsNone(self.looked_at(net))
        self.assertGreater(rings, 60)

    def test_behind_each_change(self):
        net = helper.net_of("abcd", [])
        self.assertEqual(net.order(), list("abcd"))
        for one, other, ring in (("d", "c", False), ("c", "b", False), ("b", "d", True), ("b", "a", True)):
            net.line(one, other)
            self.assertEqual(self.looked_at(net) is not None, ring)
        net.cut(3)
        self.assertEqual(net.order(), list("dcba"))
        net.cut(4)
        net.drop("a")
        self.assertEqual(net.order(), list("dcb"))
        self.refused(net, InUse, net.drop, "b", number=2)
        self.assertIsNone(self.looked_at(net))

    def test_a_ring_of_all_twelve_houses(self):
        net = helper.net_of(NAMES, [(n + 1, NAMES[n], NAMES[(n + 1) % 12], 1) for n in range(12)])
        self.assertEqual(sorted(self.looked_at(net)), list(range(1, 13)))
        net.cut(12)
        self.assertEqual(net.order(), NAMES)


class TestTwinsAndLikeness(NetCase):
    def test_twins_go_apart(self):
        net = helper.pairs_net("ab bc")
        first = told(net)
        twin = net.twin()
        self.assertIsInstance(twin, Net)
        self.assertEqual(told(twin), first)
        twin.house("z")
        twin.line("c", "z")
        twin.cut(1)
        self.assertEqual(told(net), first)
        second = told(twin)
        net.cut(2)
        net.drop("c")
        self.assertEqual(told(twin), second)

    def test_nets_have_nothing_to_do_with_one_another(self):
        one, other = Net(), Net()
        one.house("a")
        one.house("b")
        one.line("a", "b")
        self.assertEqual((other.houses(), other.lines()), ([], []))

    def test_alike_however_they_came_to_be(self):
        one = helper.net_of("abc", [(1, "a", "b", 1), (2, "b", "c", 3)])
        other = helper.net_of("cbda", [(2, "b", "c", 3), (5, "a", "d", 1), (1, "a", "b", 1)])
        self.assertFalse(one == other)
        other.cut(5)
        self.assertTrue(one != other)
        other.drop("d")
        self.assertTrue(one == other)
        self.assertFalse(one != other)
        self.assertTrue(Net() == Net())

    def test_unlike_in_one_thing(self):
        lines = [(1, "a", "b", 1), (2, "b", "c", 3)]
        net = helper.net_of("abc", lines)
        others = [("abcd", lines), ("abc", lines[:1]), ("abc", [(1, "a", "b", 2), lines[1]]), ("abc", []),
                  ("abc", [(1, "b", "a", 1), lines[1]]), ("abc", [(3, "a", "b", 1), lines[1]])]
        for houses, changed in others:
            self.assertFalse(net == helper.net_of(houses, changed))
            self.assertTrue(net != helper.net_of(houses, changed))

    def test_unlike_what_is_no_net(self):
        net = helper.pairs_net("ab")
        for thing in (None, 1, "ab", ["a", "b"], net.lines(), (), {}, object()):
            self.assertFalse(net == thing)
            self.assertTrue(net != thing)
        self.assertFalse(Net() == [])

    def test_told_lists_may_be_changed(self):
        net = helper.pairs_net("ab bc ac")
        asks = [net.houses, net.lines, net.order, lambda: net.into("c"), lambda: net.out_of("a")]
        for ask in asks:
            right = ask()
            for spoil in (list.clear, list.reverse, lambda rows: rows.append(rows[0])):
                spoil(ask())
                self.assertEqual(ask(), right)
        net = helper.pairs_net("ab ba")
        right = sorted(net.ring())
        net.ring().clear()
        self.assertEqual(sorted(net.ring()), right)
        for again in range(2):
            with self.assertRaises(Ringed) as caught:
                net.order()
            self.assertEqual(sorted(caught.exception.around), right)
            caught.exception.around.clear()


if __name__ == "__main__":
    unittest.main()
