import random
import unittest
from itertools import product

import helper
from mingleway.errors import BadHearers, BadNumber, NoHouse, NoLine
from mingleway.spread import bar, bar_breadth, reach

BUTTERFLY = "sa sb ac bc cd ax dx by dy"
WRONG_TURNS = (-1, 41, 42, -helper.LONG, helper.LONG)
WRONG_LETTERS = (0, 5, 6, -1, helper.LONG)


def is_light(since, turn):
    return since is not None and turn >= since


def breadth_by_the_words(lines, since, turn, lost):
    sendings = [(number, one, sent, other, sent + slow) for number, one, other, slow in lines for sent in range(turn + 1)]
    return sum(is_light(since[one], sent) and not is_light(since[other], came)
               for number, one, sent, other, came in sendings if came <= turn and (number, sent) not in lost)


def all_bars(houses, source, house, turn):
    others = [name for name in houses if name not in (source, house)]
    for turns in product([*range(turn + 1), None], repeat=len(others)):
        yield {source: 0, house: None, **dict(zip(others, turns))}


def least_bar(lines, houses, source, house, turn, lost):
    return min(breadth_by_the_words(lines, since, turn, lost) for since in all_bars(houses, source, house, turn))


def samples(many, turns, most_houses=5):
    chance = random.Random(21)
    for sample in range(many):
        houses = list("smabt")[:chance.randint(2, most_houses)]
        lines = helper.sample_lines(chance, houses, chance.randint(0, 7), sample % 3 == 0)
        turn = chance.randint(0, turns)
        pairs = [(line[0], at) for line in lines for at in range(turn + 2)]
        lost = tuple(chance.sample(pairs, chance.randint(0, len(pairs) // 3))) if sample % 2 else ()
        source, house = chance.sample(houses, 2)
        yield chance, houses, lines, source, house, turn, lost


class SpreadCase(helper.RefusalCase):
    def assert_bar(self, told, houses, source, house, turn):
        self.assertIsInstance(told, list)
        self.assertTrue(all(isinstance(pair, tuple) and len(pair) == 2 for pair in told))
        self.assertEqual([pair[0] for pair in told], sorted(houses))
        since = dict(told)
        self.assertEqual(since[source], 0)
        self.assertFalse(is_light(since[house], turn))
        self.assertTrue(all(at is None or at >= 0 for at in since.values()))


class TestReach(SpreadCase):
    def test_against_all_bars(self):
        met = set()
        for chance, houses, lines, source, house, turn, lost in samples(150, 5):
            net = helper.net_of(houses, lines)
            least = least_bar(lines, houses, source, house, turn, lost)
            for letters in (1, 2, 3, 4):
                wanted = min(least, letters)
                self.assertEqual(reach(net, source, house, turn, letters=letters, lost=lost), wanted)
                told = bar(net, source, house, turn, letters=letters, lost=lost)
                met.add((wanted, letters))
                if wanted == letters:
                    self.assertIsNone(told)
                    continue
                self.assert_bar(told, houses, source, house, turn)
                self.assertEqual(breadth_by_the_words(lines, dict(told), turn, lost), wanted)
                self.assertEqual(bar_breadth(net, told, turn, lost=lost), wanted)
        self.assertEqual(met, {(wanted, letters) for letters in (1, 2, 3, 4) for wanted in range(letters + 1)})

    def test_by_hand(self):
        net = helper.pairs_net(BUTTERFLY)
        self.assertEqual([reach(net, "s", "x", turn, letters=4) for turn in range(8)], [0, 0, 1, 2, 4, 4, 4, 4])
        self.assertEqual([reach(net, "s", "d", turn, letters=4) for turn in range(8)], [0, 0, 0, 1, 2, 3, 4, 4])
        self.assertEqual(bar(net, "s", "x", 0), [(name, 0 if name == "s" else None) for name in "abcdsxy"])

    def test_slow_lines(self):
        for slow in (1, 2, 3, 4):
            net = helper.net_of("sxy", [(7, "s", "x", slow), (3, "x", "y", slow)])
            for turn in range(13):
                self.assertEqual(reach(net, "s", "x", turn, letters=3), max(0, min(3, turn - slow + 1)))
                self.assertEqual(reach(net, "s", "y", turn, letters=3), max(0, min(3, turn - 2 * slow + 1)))

    def test_what_is_sent_on_was_there_first(self):
        # What is sent at turn 1 over line 2 must have come by line 1, sent at turn 0.
        net = helper.pairs_net("sa ax")
        self.assertEqual(reach(net, "s", "x", 2, lost=((1, 0),)), 0)
        self.assertEqual(reach(net, "s", "x", 3, lost=((1, 0),)), 1)
        self.assertEqual(reach(net, "s", "x", 3, lost=((2, 1),)), 1)
        self.assertEqual(reach(net, "s", "x", 3, lost=((2, 1), (2, 2))), 0)
        # A house keeps what came until it can be sent.
        self.assertEqual(reach(net, "s", "x", 4, lost=((1, 2), (1, 1), (2, 1), (2, 2))), 1)
        self.assertEqual(reach(net, "s", "x", 4, lost=((2, 1),)), 2)

    def test_defaults_and_keywords(self):
        net = helper.pairs_net("sx sx sx")
        self.assertEqual(reach(net, "s", "x", 9), 2)
        self.assertIsNone(bar(net, "s", "x", 9))
        self.assertIsNone(bar(helper.pairs_net("sx sx"), "s", "x", 1))
        self.assertIsNotNone(bar(helper.pairs_net("sx"), "s", "x", 1))
        self.assertEqual(reach(turn=1, house="x", source="s", net=net, lost=(), letters=4), 3)
        told = bar(turn=1, house="x", source="s", net=net, lost=((1, 0),), letters=4)
        self.assertEqual(bar_breadth(lost=((1, 0),), turn=1, bar=told, net=net), 2)
        for call in (reach, bar):
            with self.assertRaises(TypeError):
                call(net, "s", "x", 1, 2)
        with self.assertRaises(TypeError):
            bar_breadth(net, told, 1, ())

    def test_the_fortieth_turn(self):
        names = "abcdefghijkl"
        lines = [(at + 1, names[at], names[at + 1], 4) for at in range(10)]
        net = helper.net_of(names, lines + [(11, "k", "l", 1), (12, "l", "a", 1)])
        self.assertEqual(reach(net, "a", "k", 40), 1)
        self.assertEqual(reach(net, "a", "k", 39), 0)
        self.assertEqual(reach(net, "a", "l", 40), 0)
        told = bar(net, "a", "k", 40)
        self.assert_bar(told, names, "a", "k", 40)
        self.assertEqual(bar_breadth(net, told, 40), 1)
        everything = tuple((1, at) for at in range(40))
        self.assertEqual(reach(net, "a", "b", 40, lost=everything), 0)
        self.assertEqual(reach(net, "a", "b", 40, lost=everything[:36]), 1)
        self.assertEqual(reach(net, "a", "b", 40, lost=everything[1:38]), 1)

    def test_the_greatest_net(self):
        chance = random.Random(4)
        names = list("abcdefghijkl")
        lines = helper.sample_lines(chance, names, 30, False)
        net = helper.net_of(names, lines)
        for house in names[1:]:
            told = bar(net, "a", house, 40, letters=4)
            many = reach(net, "a", house, 40, letters=4)
            if told is None:
                self.assertEqual(many, 4)
            else:
                self.assertEqual(breadth_by_the_words(lines, dict(told), 40, ()), many)

    def test_far_losses(self):
        net = helper.pairs_net("sx")
        lost = ((1, 0), (1, 77), (1, helper.LONG), (1, 0))
        self.assertEqual(reach(net, "s", "x", 2, lost=lost), 1)
        self.assertEqual(dict(bar(net, "s", "x", 2, lost=lost))["s"], 0)
        self.assertEqual(bar_breadth(net, [("s", 0), ("x", None)], 2, lost=lost), 1)
        self.assertEqual(reach(net, "s", "x", 1, lost=((1, 1),)), 1)

    def test_a_house_that_no_line_leads_to(self):
        net = helper.pairs_net("xs sa")
        self.assertEqual(reach(net, "s", "x", 40, letters=1), 0)
        told = bar(net, "s", "x", 40, letters=1)
        self.assertEqual(bar_breadth(net, told, 40), 0)


class TestBarBreadth(SpreadCase):
    def test_drawn_bars(self):
        for chance, houses, lines, source, house, turn, lost in samples(120, 9):
            net = helper.net_of(houses, lines)
            for again in range(4):
                names = chance.sample(houses, len(houses))
                drawn = [(name, chance.choice((None, 0, chance.randint(0, 9), turn, turn + 1, 300))) for name in names]
                told = bar_breadth(net, drawn, turn, lost=lost)
                self.assertEqual(told, breadth_by_the_words(lines, dict(drawn), turn, lost))

    def test_by_hand(self):
        net = helper.net_of("sx", [(1, "s", "x", 2)])
        for since, turn, wanted in ((None, 4, 3), (0, 4, 0), (4, 4, 2), (3, 4, 1), (5, 4, 3), (None, 1, 0), (None, 2, 1)):
            self.assertEqual(bar_breadth(net, [("s", 0), ("x", since)], turn), wanted)
        self.assertEqual(bar_breadth(net, [("s", None), ("x", None)], 40), 0)
        self.assertEqual(bar_breadth(net, [("x", None), ("s", 0)], 40), 39)
        self.assertEqual(bar_breadth(net, [("s", 2), ("x", helper.LONG)], 4), 1)
        self.assertEqual(bar_breadth(net, [("s", 3), ("x", None)], 4), 0)
        self.assertEqual(bar_breadth(helper.net_of("", []), [], 0), 0)

    def test_refusals_in_order(self):
        net = helper.pairs_net("sa ax")
        good = [("a", None), ("s", 0), ("x", 3)]
        bars = [(good, None), (good + [("k", 0), ("j", 1)], (NoHouse, {"name": "k"})),
                ([("", None)] + good + [("k", 0)], (NoHouse, {"name": ""}))]
        turns = [(turn, None) for turn in (0, 40, 7)] + [(turn, (BadNumber, {})) for turn in WRONG_TURNS]
        losts = [((), None), (((1, 0), (2, helper.LONG)), None), (((1, 0), (9, 3), (8, 3)), (NoLine, {"number": 9})),
                 (((0, 0),), (NoLine, {"number": 0}))]
        for (drawn, one), (turn, other), (lost, third) in product(bars, turns, losts):
            due = one or other or third
            if due is None:
                bar_breadth(net, drawn, turn, lost=lost)
            else:
                self.refused(due[0], lambda: bar_breadth(net, drawn, turn, lost=lost), **due[1])


class TestRefusals(SpreadCase):
    def test_several_at_once_tell_the_first(self):
        net = helper.pairs_net("sa ax xs")
        before = net.twin()
        ends = [("s", "x", None), ("x", "a", None), ("k", "x", (NoHouse, {"name": "k"})),
                ("k", "j", (NoHouse, {"name": "k"})), ("s", "j", (NoHouse, {"name": "j"})),
                ("k", "k", (NoHouse, {"name": "k"})), ("s", "s", (BadHearers, {}))]
        turns = [(turn, None) for turn in (0, 40, 3)] + [(turn, (BadNumber, {})) for turn in WRONG_TURNS]
        letters = [(many, None) for many in (1, 4)] + [(many, (BadNumber, {})) for many in WRONG_LETTERS]
        losts = [((), None), (((1, 0), (7, 3), (8, 3)), (NoLine, {"number": 7})), (((100, 0),), (NoLine, {"number": 100}))]
        for (source, house, one), (turn, two), (many, three), (lost, four) in product(ends, turns, letters, losts):
            due = one or two or three or four
            for call in (reach, bar):
                if due is None:
                    call(net, source, house, turn, letters=many, lost=lost)
                else:
                    self.refused(due[0], lambda: call(net, source, house, turn, letters=many, lost=lost), **due[1])
        self.assertTrue(net == before)


class TestOwners(SpreadCase):
    def test_told_and_handed_lists(self):
        net = helper.pairs_net(BUTTERFLY)
        told = bar(net, "s", "d", 4, letters=4)
        copy = list(told)
        told.clear()
        self.assertEqual(bar(net, "s", "d", 4, letters=4), copy)
        many = bar_breadth(net, copy, 4)
        self.assertEqual(copy, bar(net, "s", "d", 4, letters=4))
        self.assertEqual(many, 2)
        self.assertTrue(net == helper.pairs_net(BUTTERFLY))
        # What is asked of a net that has turned is told of it as it stands.
        net.cut(5)
        self.assertEqual(reach(net, "s", "d", 4), 0)
        self.assertEqual(bar_breadth(net, copy, 4), breadth_by_the_words(net.lines(), dict(copy), 4, ()))


if __name__ == "__main__":
    unittest.main()
