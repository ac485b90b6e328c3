import random
import unittest
from itertools import product

import helper
from mingleway.errors import BadNumber, BadRow, BadSize, NoHouse, NoLine, NothingLeft, Told
from mingleway.fields import SIZES, Field
from mingleway.runs import Run, dealt
from mingleway.spread import reach
from mingleway.sums import Guard

RINGED = "sa sb ac bc cd ax dx by dy xs da"
WRONG_SIZES = (0, 1, -2, 6, 10, 12, 15, 17, 256, helper.LONG)


def share_by_the_words(seed, turn, line, place, size):
    n = (seed * 48271 + turn * 7919 + line * 104729 + place * 1299709 + 11) % 2147483647
    n = (n ** 2) % 2147483647
    return (n // 64) % size


def dot(size, one, other):
    total = 0
    for number, more in zip(one, other):
        total = helper.plus(size, total, helper.times(size, number, more))
    return total


class Followed:
    """A run told from its first turn on, as the document says it, without anything to take back."""

    def __init__(self, houses, lines, source, words, size, seed, turns):
        self.size, self.letters, self.words = size, len(words), words
        units = [tuple(int(at == place) for at in range(len(words))) for place in range(len(words))]
        self.rows = {house: [] for house in houses}
        self.rows[source] = [unit + word for unit, word in zip(units, words)]
        self.clashes, self.caught, self.sent, self.moving, self.guards = [], [], [], [], {}
        self.lines, self.seed = sorted(lines), seed
        for turn, (tellings, guards) in enumerate(turns):
            self.guards.update(guards)
            self.take(turn)
            self.send(turn, tellings)

    def take(self, turn):
        for number, _, house, _ in self.lines:
            due = [moved for moved in self.moving if moved["line"] == number and moved["due"] == turn]
            for again in (False, True):
                for moved in sorted((moved for moved in due if moved["again"] == again), key=lambda moved: moved["sent"]):
                    self.come(turn, house, number, moved["row"])

    def passes(self, house, row):
        for key in self.guards.get(house, []):
            total = dot(self.size, row[self.letters:], key)
            for letter, word in enumerate(self.words):
                opposite = next(n for n in range(self.size) if helper.plus(self.size, n, dot(self.size, word, key)) == 0)
                total = helper.plus(self.size, total, helper.times(self.size, row[letter], opposite))
            if total != 0:
                return False
        return True

    def is_mix(self, row, rows):
        return helper.rank(self.size, rows + [row]) == helper.rank(self.size, rows)

    def come(self, turn, house, line, row):
        if not self.passes(house, row):
            self.caught.append((turn, house, line))
        elif not self.is_mix(row[:self.letters], [had[:self.letters] for had in self.rows[house]]):
            self.rows[house].append(row)
        elif not self.is_mix(row, self.rows[house]):
            self.clashes.append((turn, house, line))

    def send(self, turn, tellings):
        for number, one, _, slow in self.lines:
            had = self.rows[one]
            if not had:
                continue
            shares = [share_by_the_words(self.seed, turn, number, place, self.size) for place in range(len(had))]
            row = helper.mix(self.size, len(had[0]), had, shares)
            kind, worth = tellings.get(number, ("", None))
            if kind == "spoil":
                row = helper.mix(self.size, len(row), [row, worth], [1, 1])
            self.sent.append((turn, number, row))
            due = turn + slow + (worth if kind == "slow" else 0)
            if kind != "lose":
                self.moving.append({"line": number, "due": due, "again": False, "sent": turn, "row": row})
            if kind == "double":
                self.moving.append({"line": number, "due": due + 1, "again": True, "sent": turn, "row": row})

    def sure(self, house):
        heads = [row[:self.letters] for row in self.rows[house]]
        units = [tuple(int(at == place) for at in range(self.letters)) for place in range(self.letters)]
        return [place for place in range(self.letters) if self.is_mix(units[place], heads)]


def told(run, houses):
    return (run.turn(), len(run), [run.rank(house) for house in houses], [run.rows(house) for house in houses],
            [run.knows(house) for house in houses], run.clashes(), run.caught(), run.sent())


def sample_row(chance, size, width):
    return tuple(chance.choice((0, chance.randrange(size))) for _ in range(width))


class RunCase(helper.RefusalCase):
    def assert_alike(self, run, houses, lines, source, words, size, seed, turns):
        wanted = Followed(houses, lines, source, words, size, seed, turns)
        self.assertEqual((run.turn(), len(run)), (len(turns), len(turns)))
        for house in houses:
            self.assertEqual(run.rows(house), wanted.rows[house])
            self.assertEqual(run.rank(house), len(wanted.rows[house]))
            known = run.knows(house)
            self.assertEqual(list(known), wanted.sure(house))
            for letter, word in known.items():
                self.assertEqual(len(word), len(words[0]))
                unit = tuple(int(at == letter) for at in range(len(words)))
                self.assertTrue(wanted.is_mix(unit + word, wanted.rows[house]))
        self.assertEqual(run.clashes(), wanted.clashes)
        self.assertEqual(run.caught(), wanted.caught)
        self.assertEqual(run.sent(), wanted.sent)
        return wanted


class TestDealt(unittest.TestCase):
    def test_by_the_told_reckoning(self):
        chance, met = random.Random(41), set()
        for sample in range(600):
            far = chance.choice((5, 100, 10 ** 12, 10 ** 30))
            numbers = [chance.randrange(far) for _ in range(4)]
            size = chance.choice(SIZES)
            self.assertEqual(dealt(*numbers, size=size), share_by_the_words(*numbers, size))
            self.assertEqual(dealt(*numbers), share_by_the_words(*numbers, 16))
            met.add((size, dealt(*numbers, size=size)))
        self.assertEqual(met, {(size, share) for size in SIZES for share in range(size)})

    def test_by_hand(self):
        # 11 squared is 121, and 121 divided by 64 is 1.
        self.assertEqual([dealt(0, 0, 0, 0, size=size) for size in SIZES], [1] * len(SIZES))
        self.assertEqual(dealt(place=0, line=0, turn=1, seed=0), 7930 ** 2 // 64 % 16)
        self.assertEqual(dealt(0, 0, 0, 1, size=13), (1299720 ** 2 % 2147483647) // 64 % 13)
        self.assertEqual(dealt(1, 0, 0, 0, size=11), (48282 ** 2 % 2147483647) // 64 % 11)
        self.assertEqual(dealt(0, 0, 1, 0, size=9), (104740 ** 2 % 2147483647) // 64 % 9)

    def test_refusals(self):
        for size in WRONG_SIZES:
            self.assertRaises(BadSize, dealt, 1, 2, 3, 4, size=size)
        with self.assertRaises(TypeError):
            dealt(1, 2, 3, 4, 16)


class TestAgainstTheWords(RunCase):
    """Runs led on at random, held against one that is told anew from turn 0 behind each step."""

    def setUp(self):
        self.met = {}

    def samples(self, many):
        chance = random.Random(42)
        for sample in range(many):
            houses = list("sabcx")[:chance.randint(2, 5)]
            lines = helper.sample_lines(chance, houses, chance.randint(2, 8), sample % 4 == 0)
            size, letters, width = chance.choice(SIZES), chance.randint(1, 4), chance.randint(1, 3)
            words = [sample_row(chance, size, width) for _ in range(letters)]
            source = chance.choice(houses[:2])
            seed = chance.choice((0, 1, chance.randrange(10 ** 6), 10 ** 29 + sample))
            run = Run(helper.net_of(houses, lines), source, words, size=size, seed=seed)
            yield chance, run, (houses, lines, source, words, size, seed)

    def tell(self, chance, run, things, pending, spoils):
        houses, lines, _, words, size, _ = things
        kind = chance.choice(("lose", "slow", "double") + ("spoil", "spoil", "guard", "guard") * spoils)
        if kind == "guard":
            house = chance.choice(houses)
            keys = [sample_row(chance, size, len(words[0])) for _ in range(chance.choice((0, 1, 2, 2)))]
            run.guard(house, keys)
            pending[1][house] = keys
            return True
        line = chance.choice(lines)[0]
        worth = {"lose": None, "double": None, "slow": chance.randint(1, 5),
                 "spoil": sample_row(chance, size, len(words) + len(words[0]))}[kind]
        calls = {"lose": lambda: run.lose(line), "double": lambda: run.double(line),
                 "slow": lambda: run.slow(line, by=worth), "spoil": lambda: run.spoil(line, worth)}
        if line in pending[0]:
            self.refused(Told, calls[kind])
            self.met["told"] = True
            return False
        calls[kind]()
        pending[0][line] = (kind, worth)
        return True

    def guard_all(self, chance, run, things, pending):
        houses, _, _, words, size, _ = things
        for house in houses:
            pending[1][house] = [sample_row(chance, size, len(words[0]))]
            run.guard(house, pending[1][house])

    def lead(self, chance, run, things, turns, pending, redo, spoils=True):
        """One step, of the run and of what is noted here; the new notes."""
        step = chance.choice(("tell", "tell", "tell", "go", "go", "go", "back", "again", "again"))
        if step == "tell":
            if self.tell(chance, run, things, pending, spoils):
                redo = []
        elif step == "go":
            many = chance.choice((0, 1, 1, 1, 2, 3))
            if len(turns) + many > 60:
                return turns, pending, redo
            run.go(many)
            if many:
                turns = turns + [pending] + [({}, {})] * (many - 1)
                pending, redo = ({}, {}), []
        elif step == "back":
            if not turns:
                self.refused(NothingLeft, run.back)
            else:
                run.back()
                turns, pending, redo = turns[:-1], ({}, {}), redo + [turns[-1]]
        elif not redo:
            self.refused(NothingLeft, run.again)
        else:
            run.again()
            turns, pending, redo = turns + [redo[-1]], ({}, {}), redo[:-1]
            self.met["again"] = True
        return turns, pending, redo

    def test_all_steps(self):
        for chance, run, things in self.samples(40):
            turns, pending, redo = [], ({}, {}), []
            if len(things[1]) % 2 == 0:
                self.guard_all(chance, run, things, pending)
            for step in range(45):
                turns, pending, redo = self.lead(chance, run, things, turns, pending, redo)
                if step % 6 == 2:
                    wanted = self.assert_alike(run, *things, turns)
            if wanted.clashes:
                self.met["clash"] = True
            if wanted.caught:
                self.met["caught"] = True
        self.assertEqual(set(self.met), {"told", "again", "clash", "caught"})

    def test_twins(self):
        for chance, run, things in self.samples(25):
            notes = [], ({}, {}), []
            for step in range(12):
                notes = self.lead(chance, run, things, *notes)
            turns, pending, redo = notes
            twin = run.twin()
            self.assertIsInstance(twin, Run)
            self.assert_alike(twin, *things, turns)
            pair = [(run, (turns, tuple(map(dict, pending)), redo)), (twin, (turns, tuple(map(dict, pending)), redo))]
            for step in range(24):
                which = chance.randrange(2)
                one, others = pair[which]
                pair[which] = (one, self.lead(chance, one, things, *others))
                for one, (turns, _, _) in pair:
                    if step % 8 == 0:
                        self.assert_alike(one, *things, turns)
            for one, (turns, _, _) in pair:
                one.go(0)
                self.assert_alike(one, *things, turns)

    def test_without_spoilt_rows(self):
        for chance, run, things in self.samples(25):
            houses, lines, source, words, size, seed = things
            turns, pending, redo = [], ({}, {}), []
            for step in range(14):
                turns, pending, redo = self.lead(chance, run, things, turns, pending, redo, spoils=False)
            self.assertEqual((run.clashes(), run.caught()), ([], []))
            lost = tuple((line, turn) for turn, (tellings, _) in enumerate(turns) for line in tellings
                         if tellings[line][0] == "lose")
            for house in houses:
                for row in run.rows(house):
                    self.assertEqual(row[len(words):], helper.mix(size, len(words[0]), words, row[:len(words)]))
                for letter, word in run.knows(house).items():
                    self.assertEqual(word, words[letter])
                if turns and house != source:
                    most = reach(helper.net_of(houses, lines), source, house, len(turns) - 1, letters=len(words), lost=lost)
                    self.assertLessEqual(run.rank(house), most)

    def test_sixty_turns(self):
        for chance, run, things in self.samples(4):
            for many in (17, 0, 43):
                run.go(many)
            self.assert_alike(run, *things, [({}, {})] * 60)


class TestRun(RunCase):
    def test_at_first(self):
        run = Run(helper.pairs_net("sa ab"), "s", [(1, 2), (3, 4), (5, 6)])
        rows = [(1, 0, 0, 1, 2), (0, 1, 0, 3, 4), (0, 0, 1, 5, 6)]
        self.assertEqual(told(run, "abs"), (0, 0, [0, 0, 3], [[], [], rows], [{}, {}, {0: (1, 2), 1: (3, 4), 2: (5, 6)}],
                                            [], [], []))
        run = Run(seed=3, size=9, words=[(8,)], source="b", net=helper.pairs_net("sa ab"))
        self.assertEqual((run.rows("b"), run.rows("s"), run.knows("b")), ([(1, 8)], [], {0: (8,)}))
        with self.assertRaises(TypeError):
            Run(helper.pairs_net("sa"), "s", [(1,)], 16)
        plain, alike = Run(helper.pairs_net("sa"), "s", [(1,)]), Run(helper.pairs_net("sa"), "s", [(1,)], size=16, seed=0)
        plain.go(9)
        alike.go(9)
        self.assertEqual(plain.sent(), alike.sent())
        self.assertEqual(plain.sent()[0], (0, 1, (share_by_the_words(0, 0, 1, 0, 16),) * 2))

    def test_one_line_by_hand(self):
        # In size 2 a share is 1 or 0; by a share of 0 a row of noughts goes, and is known already.
        net = helper.net_of("sx", [(5, "s", "x", 2)])
        run = Run(net, "s", [(1, 1)], size=2, seed=9)
        shares = [share_by_the_words(9, turn, 5, 0, 2) for turn in range(8)]
        run.go(8)
        self.assertEqual(run.sent(), [(turn, 5, (share,) * 3) for turn, share in enumerate(shares)])
        self.assertEqual({0, 1}, set(shares))
        first = shares.index(1)
        run = Run(net, "s", [(1, 1)], size=2, seed=9)
        for turn in range(8):
            run.go()
            self.assertEqual(run.rank("x"), 1 if turn >= first + 2 else 0)

    def test_all_lines_of_a_turn_send_what_came_at_it(self):
        # What comes at turn 1 is sent on at turn 1, whatever the lines' numbers are.
        net = helper.net_of("sax", [(1, "a", "x", 1), (2, "s", "a", 1)])
        run = Run(net, "s", [(3,)], size=7, seed=2)
        run.go(2)
        self.assertEqual([(turn, line) for turn, line, _ in run.sent()], [(0, 2), (1, 1), (1, 2)])
        self.assertEqual((run.rank("a"), run.rank("x")), (1, 0))
        run.go(1)
        self.assertEqual(run.rank("x"), 1)

    def test_the_order_of_what_comes(self):
        net = helper.net_of("sx", [(9, "s", "x", 2), (4, "s", "x", 1)])
        run = Run(net, "s", [(1,), (2,), (3,), (4,)], size=13, seed=5)
        run.slow(4, by=2)
        run.lose(9)
        run.go()
        run.double(4)
        run.go()
        run.lose(9)
        run.go()
        sent = {(turn, line): row for turn, line, row in run.sent()}
        self.assertEqual(run.rows("x"), [sent[1, 4]])
        # At turn 3 there are: by line 4 what was sent at 0, then at 2, again what was sent at 1; by line 9 of turn 1.
        run.go()
        self.assertEqual(run.rows("x"), [sent[1, 4], sent[0, 4], sent[2, 4], sent[1, 9]])

    def test_a_doubled_row_behind_one_that_was_sent_ahead_of_it(self):
        run = Run(helper.pairs_net("sx"), "s", [(1,), (2,)], size=16, seed=1)
        run.slow(1)
        run.go()
        run.double(1)
        run.go(2)
        self.assertEqual(run.rows("x"), [row for turn, line, row in run.sent()[:2]])

    def test_what_comes_again_comes_behind_what_comes_for_the_first_time(self):
        for twice in (False, True):
            run = Run(helper.pairs_net("sa ax"), "s", [(1,), (2,)], size=16, seed=1)
            run.spoil(1, (0, 0, 1))
            run.go()
            run.double(2)
            run.go()
            run.guard("x", [(1,)])
            if twice:
                run.double(2)
            run.go()
            self.assertEqual((run.caught(), run.rank("x"), run.rank("a")), ([(2, "x", 2)], 0, 2))
            run.guard("x", [])
            run.go()
            sent = {(turn, line): row for turn, line, row in run.sent()}
            self.assertEqual(run.rows("x"), [sent[2, 2], sent[1, 2]])

    def test_a_clash_of_a_house_that_has_nothing(self):
        # A head of noughts is the mix of no heads, and a body of noughts is its like mix.
        net = helper.net_of("sx", [(1, "s", "x", 1)])
        run = Run(net, "s", [(0, 0)], size=2, seed=0)
        run.go(2)
        share = run.sent()[0][2][0]
        run = Run(net, "s", [(0, 0)], size=2, seed=0)
        run.spoil(1, (share, 0, 1))
        run.go(2)
        self.assertEqual(run.sent()[0], (0, 1, (0, 0, 1)))
        self.assertEqual((run.clashes(), run.rows("x"), run.knows("x")), ([(1, "x", 1)], [], {}))

    def test_a_spoilt_row_that_is_kept(self):
        # It is kept, since its head is new; later rows clash with it, and what is known is what it tells.
        net = helper.net_of("sx", [(1, "s", "x", 1)])
        run = Run(net, "s", [(2,)], size=5, seed=4)
        share = share_by_the_words(4, 0, 1, 0, 5)
        self.assertNotEqual(share, 0)
        run.spoil(1, (0, 1))
        run.go(4)
        self.assertEqual(run.rows("x"), [(share, (2 * share + 1) % 5)])
        inverse = next(n for n in range(5) if n * share % 5 == 1)
        self.assertEqual(run.knows("x"), {0: ((2 * share + 1) * inverse % 5,)})
        later = [turn for turn in (1, 2) if share_by_the_words(4, turn, 1, 0, 5)]
        self.assertEqual(run.clashes(), [(turn + 1, "x", 1) for turn in later])
        self.assertGreater(len(later), 0)

    def test_the_source_hears_too(self):
        net = helper.pairs_net("sa as")
        run = Run(net, "s", [(1,), (1,)], size=4, seed=7)
        run.spoil(1, (0, 0, 1))
        run.go(1)
        run.guard("s", [(1,)])
        run.go(3)
        self.assertEqual(run.rows("s"), [(1, 0, 1), (0, 1, 1)])
        self.assertTrue(run.caught())
        self.assertTrue(all(house == "s" and line == 2 for _, house, line in run.caught()))
        other = Run(net, "s", [(1,), (1,)], size=4, seed=7)
        other.spoil(1, (0, 0, 1))
        other.go(4)
        self.assertEqual([clash for clash in other.clashes() if clash[1] == "s"], run.caught())

    def test_where_nothing_is_sent(self):
        net = helper.pairs_net("sa ax")
        run, other = [Run(net, "s", [(1, 2)], size=3) for _ in range(2)]
        for telling in (lambda: run.lose(2), lambda: run.spoil(2, (1, 1, 1)), lambda: run.slow(2), lambda: run.double(2)):
            telling()
            self.refused(Told, lambda: run.lose(2))
            run.go()
            run.back()
        run.spoil(2, (1, 1, 1))
        run.go(6)
        other.go(6)
        self.assertEqual(told(run, "sax"), told(other, "sax"))

    def test_a_telling_is_for_one_turn(self):
        net = helper.pairs_net("sx")
        for chosen in ("lose", "double", "slow"):
            run = Run(net, "s", [(1, 2)], size=3)
            getattr(run, chosen)(1)
            run.go(0)
            self.refused(Told, lambda: run.double(1))
            run.go(1)
            run.double(1)
            self.assertEqual(run.turn(), 1)

    def test_lost_rows_are_told_as_sent(self):
        net = helper.pairs_net("sx")
        run, other = [Run(net, "s", [(1, 2)], size=16, seed=6) for _ in range(2)]
        for turn in range(5):
            run.lose(line=1)
            run.go()
        other.go(5)
        self.assertEqual((run.sent(), run.rank("x")), (other.sent(), 0))
        self.assertEqual(other.rank("x"), 1)

    def test_slowed_rows(self):
        net = helper.net_of("sx", [(1, "s", "x", 3)])
        for by in (1, 2, 3, 4, 5):
            run = Run(net, "s", [(1,)], size=16, seed=6)
            run.slow(1, by=by)
            run.go()
            for turn in range(1, 9):
                run.lose(1)
                run.go()
                self.assertEqual(run.rank("x"), 1 if turn >= 3 + by else 0)
        run = Run(net, "s", [(1,)], size=16, seed=6)
        run.slow(line=1)
        run.go()
        for turn in range(1, 6):
            run.lose(1)
            run.go()
            self.assertEqual(run.rank("x"), 1 if turn >= 4 else 0)

    def test_doubled_rows(self):
        net = helper.net_of("sx", [(1, "s", "x", 2)])
        run = Run(net, "s", [(1,)], size=16, seed=6)
        run.guard("x", [(1,)])
        run.spoil(1, (0, 1))
        run.go()
        run.double(1)
        run.go()
        run.go(3)
        self.assertEqual(run.caught(), [(2, "x", 1)])
        self.assertEqual(run.rank("x"), 1)
        # A doubled row is the same row: with a guard that catches it, it is caught twice.
        net = helper.net_of("sax", [(1, "s", "a", 1), (2, "a", "x", 2)])
        run = Run(net, "s", [(1,)], size=16, seed=6)
        run.spoil(1, (0, 1))
        run.go()
        run.guard("x", [(1,)])
        run.double(2)
        run.go()
        for turn in range(5):
            run.lose(2)
            run.go()
        self.assertEqual(run.caught(), [(3, "x", 2), (4, "x", 2)])
        self.assertEqual([turn for turn, line, _ in run.sent() if line == 2], list(range(1, 7)))

    def test_go(self):
        run = Run(helper.pairs_net("sx"), "s", [(1,)])
        for many in (-1, 61, 62, -helper.LONG, helper.LONG):
            self.refused(BadNumber, lambda: run.go(many))
        self.assertEqual(run.turn(), 0)
        self.assertIsNone(run.go())
        self.assertEqual((run.turn(), len(run)), (1, 1))
        self.assertIsNone(run.go(0))
        run.go(many=58)
        self.refused(BadNumber, lambda: run.go(2))
        self.assertEqual((run.turn(), len(run), len(run.sent())), (59, 59, 59))
        run.go(1)
        self.assertEqual((run.turn(), len(run.sent())), (60, 60))
        self.refused(BadNumber, run.go)
        self.refused(BadNumber, lambda: run.go(-1))
        run.go(0)
        run.lose(1)
        run.back()
        self.assertEqual(run.turn(), 59)
        run.again()
        self.refused(BadNumber, lambda: run.go(1))
        self.assertEqual(run.turn(), 60)

    def test_two_tellings(self):
        net = helper.pairs_net("sx sx")
        kinds = {"lose": lambda run: run.lose(1), "spoil": lambda run: run.spoil(1, (1, 1)),
                 "slow": lambda run: run.slow(1, by=2), "double": lambda run: run.double(1)}
        for one, other in product(kinds, repeat=2):
            run, alike = [Run(net, "s", [(1,)], size=3) for _ in range(2)]
            kinds[one](run)
            kinds[one](alike)
            self.refused(Told, lambda: kinds[other](run))
            self.assertIsNone(run.lose(2))
            alike.lose(2)
            run.go(5)
            alike.go(5)
            self.assertEqual(told(run, "sx"), told(alike, "sx"))


class TestGuards(RunCase):
    def test_from_the_coming_turn_on(self):
        net = helper.pairs_net("sx")
        run = Run(net, "s", [(1, 0)], size=7, seed=3)
        for turn in range(2):
            run.spoil(1, (0, 1, 1))
            run.go()
        self.assertIsNone(run.guard(keys=[(1, 0), (0, 1)], house="x"))
        self.assertEqual(run.caught(), [])
        run.go(2)
        self.assertEqual((run.caught(), run.rank("x")), ([(2, "x", 1)], 1))

    def test_elder_keys_are_let_go(self):
        net = helper.pairs_net("sx")
        run = Run(net, "s", [(0, 0)], size=7, seed=3)
        run.guard("x", [(1, 0)])
        # Set anew for the same turn: no refusal.
        run.guard("x", [(0, 1)])
        run.spoil(1, (0, 1, 0))
        run.go()
        run.spoil(1, (0, 0, 1))
        run.go()
        self.assertEqual(run.caught(), [])
        run.go()
        self.assertEqual(run.caught(), [(2, "x", 1)])
        run.guard("x", [])
        run.spoil(1, (0, 0, 1))
        run.go()
        run.go()
        self.assertEqual(run.caught(), [(2, "x", 1)])
        self.assertEqual(run.rank("x"), 1)
        self.assertIn((4, "x", 1), run.clashes())

    def test_a_guard_is_taken_back_with_its_turn(self):
        net = helper.pairs_net("sx")
        run = Run(net, "s", [(0,)], size=7, seed=3)
        run.spoil(1, (0, 1))
        run.go()
        run.guard("x", [(1,)])
        run.go()
        self.assertEqual(run.caught(), [(1, "x", 1)])
        run.back()
        self.assertEqual(run.caught(), [])
        run.again()
        self.assertEqual(run.caught(), [(1, "x", 1)])
        run.back()
        run.go()
        self.assertEqual((run.caught(), run.clashes() or run.rank("x")), ([], 1))
        self.refused(NothingLeft, run.again)

    def test_a_guard_that_was_set_but_not_gone_is_dropped(self):
        net = helper.pairs_net("sx")
        run = Run(net, "s", [(0,)], size=7, seed=3)
        run.go()
        run.guard("x", [(1,)])
        self.refused(NothingLeft, run.again)
        run.back()
        run.again()
        run.spoil(1, (0, 1))
        run.go(2)
        self.assertEqual(run.caught(), [])
        run.back()
        run.back()
        run.guard("x", [(1,)])
        self.refused(NothingLeft, run.again)
        run.spoil(1, (0, 1))
        run.go(2)
        self.assertEqual(run.caught(), [(2, "x", 1)])

    def test_as_the_guard_of_its_words(self):
        chance, met = random.Random(43), set()
        for sample in range(60):
            size = chance.choice(SIZES)
            words = [sample_row(chance, size, 2) for _ in range(2)]
            keys = [sample_row(chance, size, 2) for _ in range(chance.randint(0, 2))]
            run = Run(helper.pairs_net("sx"), "s", words, size=size, seed=sample)
            run.guard("x", keys)
            run.spoil(1, sample_row(chance, size, 4))
            run.go(2)
            let = Guard(Field(size), words, keys).lets(run.sent()[0][2])
            self.assertEqual(run.caught(), [] if let else [(1, "x", 1)])
            met.add(let)
        self.assertEqual(met, {True, False})


class TestBackAndAgain(RunCase):
    def start(self):
        return Run(helper.pairs_net(RINGED), "s", [(1, 2), (3, 4)], size=5, seed=8)

    def test_turn_by_turn(self):
        run, stands = self.start(), []
        self.refused(NothingLeft, run.back)
        self.refused(NothingLeft, run.again)
        for turn in range(7):
            stands.append(told(run, "abcdsxy"))
            if turn == 2:
                run.lose(1)
                run.spoil(2, (0, 0, 1, 1))
                run.guard("c", [(1, 1)])
            run.go()
        stands.append(told(run, "abcdsxy"))
        for turn in range(6, -1, -1):
            self.assertIsNone(run.back())
            self.assertEqual(told(run, "abcdsxy"), stands[turn])
        self.refused(NothingLeft, run.back)
        self.assertEqual(told(run, "abcdsxy"), stands[0])
        for turn in range(1, 8):
            self.assertIsNone(run.again())
            self.assertEqual(told(run, "abcdsxy"), stands[turn])
        self.refused(NothingLeft, run.again)
        self.assertEqual(told(run, "abcdsxy"), stands[7])

    def test_several_turns_gone_at_once_are_taken_back_one_by_one(self):
        run = self.start()
        run.go(5)
        run.back()
        self.assertEqual(run.turn(), 4)

    def test_what_ends_doing_again(self):
        row = (1, 1, 1, 1)
        ends = (lambda run: run.lose(1), lambda run: run.spoil(1, row), lambda run: run.slow(1), lambda run: run.double(1),
                lambda run: run.guard("a", []), lambda run: run.go(1))
        for end in ends:
            run = self.start()
            run.go(3)
            run.back()
            run.back()
            end(run)
            self.refused(NothingLeft, run.again)

    def test_what_does_not_end_doing_again(self):
        row = (1, 1, 1, 1)
        stays = (lambda run: run.go(0), lambda run: run.knows("x"), lambda run: run.twin().lose(1))
        wrong = (lambda run: run.lose(77), lambda run: run.spoil(1, row[1:]), lambda run: run.slow(1, by=6),
                 lambda run: run.slow(1, by=0), lambda run: run.double(0), lambda run: run.guard("k", []),
                 lambda run: run.guard("a", [(1,)]), lambda run: run.go(60), lambda run: run.go(-1),
                 lambda run: run.rows("k"))
        for call in stays + wrong:
            run = self.start()
            run.go(3)
            after = told(run, "abcdsxy")
            run.back()
            if call in wrong:
                self.assertRaises((BadNumber, BadRow, NoLine, NoHouse), call, run)
            else:
                call(run)
            run.again()
            self.assertEqual(told(run, "abcdsxy"), after)

    def test_what_was_told_for_the_coming_turn_is_dropped(self):
        run, plain = self.start(), self.start()
        run.lose(1)
        run.go()
        run.lose(2)
        run.spoil(1, (0, 0, 0, 1))
        run.back()
        # What was told for the turn that was taken back is gone, too: it may be told once more.
        twin = run.twin()
        twin.slow(1)
        twin.lose(2)
        run.again()
        run.lose(2)
        run.back()
        run.go(4)
        plain.go(4)
        self.assertEqual(told(run, "abcdsxy"), told(plain, "abcdsxy"))

    def test_a_refused_back_keeps_what_was_told(self):
        run = self.start()
        run.lose(1)
        self.refused(NothingLeft, run.back)
        self.refused(NothingLeft, run.again)
        self.refused(Told, lambda: run.lose(1))
        run.go(2)
        self.assertEqual(run.rank("a"), 0)

    def test_tellings_come_back_with_their_turn(self):
        run = self.start()
        run.lose(1)
        run.go(2)
        after = told(run, "abcdsxy")
        run.back()
        run.back()
        run.again()
        run.again()
        self.assertEqual(told(run, "abcdsxy"), after)
        self.assertEqual(run.rank("a"), 0)

    def test_twins_have_their_own_to_take_back(self):
        run = self.start()
        run.go(3)
        run.back()
        run2 = run.twin()
        run.again()
        self.assertEqual((run.turn(), run2.turn()), (3, 2))
        run2.again()
        self.assertEqual(told(run, "abcdsxy"), told(run2, "abcdsxy"))
        for step in range(3):
            run2.back()
        self.refused(NothingLeft, run2.back)
        self.assertEqual((run.turn(), run2.turn()), (3, 0))
        run2.lose(1)
        run2.go()
        run.back()
        self.refused(NothingLeft, run2.again)
        run.again()
        self.assertEqual(run.turn(), 3)

    def test_a_twin_has_what_was_told_for_the_coming_turn(self):
        run = self.start()
        run.lose(1)
        run.guard("a", [(1, 1)])
        twin = run.twin()
        self.refused(Told, lambda: twin.double(1))
        twin.lose(2)
        run.double(2)
        run.go(2)
        twin.go(2)
        self.assertEqual((run.rank("a"), run.rank("b"), twin.rank("a"), twin.rank("b")), (0, 1, 0, 0))


class TestRefusals(RunCase):
    def test_a_new_run_tells_the_first(self):
        net = helper.pairs_net("sa ax xs")
        sources = [("s", None), ("k", (NoHouse, {"name": "k"})), ("", (NoHouse, {"name": ""}))]
        sizes = [(16, None), (2, None)] + [(size, (BadSize, {})) for size in WRONG_SIZES]
        bad = (BadRow, {})
        words = [([(1, 0)], None), (((1,), (0,), (1,), (1,)), None), ([], bad), ([()], bad), ([(1,), (1, 1)], bad),
                 ([(1,)] * 5, bad), ([(1,)] * 300, bad), ([(1, 16)], bad), ([(1,), (-1,)], bad), ([(1, 1), ()], bad)]
        seeds = [(0, None), (helper.LONG, None), (-1, (BadNumber, {})), (-helper.LONG, (BadNumber, {}))]
        for (source, one), (size, two), (rows, three), (seed, four) in product(sources, sizes, words, seeds):
            due = one or two or three or four
            if due is None:
                Run(net, source, rows, size=size, seed=seed)
            else:
                self.refused(due[0], lambda: Run(net, source, rows, size=size, seed=seed), **due[1])
        self.refused(BadRow, lambda: Run(net, "s", [(1, 2)], size=2))
        self.assertTrue(net == helper.pairs_net("sa ax xs"))

    def test_tellings_tell_the_first(self):
        run = Run(helper.pairs_net("sa ax sx"), "s", [(1, 0), (0, 1)], size=3)
        run.lose(3)
        run.go(2)
        run.double(2)
        before = told(run, "asx")
        lines = [(1, None), (2, (Told, {})), (0, (NoLine, {"number": 0})), (4, (NoLine, {"number": 4})),
                 (-helper.LONG, (NoLine, {"number": -helper.LONG}))]
        rows = [((1, 0, 2, 0), None)] + [(row, (BadRow, {})) for row in ((), (1, 0), (0,) * 3, (0,) * 5, (0, 0, 0, 3),
                                                                       (-1, 0, 0, 0), (helper.LONG, 0, 0, 0))]
        bys = [(1, None), (5, None)] + [(by, (BadNumber, {})) for by in (0, 6, -1, helper.LONG)]
        for line, one in lines:
            calls = [(lambda twin: twin.lose(line), None), (lambda twin: twin.double(line), None)]
            calls += [(lambda twin, row=row: twin.spoil(line, row), two) for row, two in rows]
            calls += [(lambda twin, by=by: twin.slow(line, by=by), two) for by, two in bys]
            for call, two in calls:
                # A line that isn't there ahead of all, what was told already behind all.
                due = one if one and one[0] is NoLine else two or one
                twin = run.twin()
                if due is None:
                    self.assertIsNone(call(twin))
                else:
                    self.refused(due[0], lambda: call(twin), **due[1])
                self.assertEqual(told(twin, "asx"), before)
        with self.assertRaises(TypeError):
            run.slow(1, 2)

    def test_a_refused_telling_is_not_told(self):
        refused = (lambda run: run.spoil(1, (1, 2)), lambda run: run.slow(1, by=6), lambda run: run.slow(1, by=0))
        for call in refused:
            run, other = [Run(helper.pairs_net("sa ax"), "s", [(1, 0), (0, 1)], size=3) for _ in range(2)]
            self.assertRaises((BadRow, BadNumber), call, run)
            run.lose(1)
            other.lose(1)
            run.go(4)
            other.go(4)
            self.assertEqual(told(run, "asx"), told(other, "asx"))

    def test_guards_tell_the_first(self):
        run = Run(helper.pairs_net("sa ax"), "s", [(1, 0), (0, 1)], size=3)
        wrong = [[()], [(1,)], [(1, 1), (1, 1, 1)], [(3, 0)], [(0, 0), (0, -1)], [(helper.LONG, 0)]]
        for keys in wrong + [[], [(1, 2)]]:
            self.refused(NoHouse, lambda: run.guard("k", keys), name="k")
        for keys in wrong:
            self.refused(BadRow, lambda: run.guard("a", keys))
        # Behind a refused guard the elder one stands.
        run.guard("a", [(0, 1)])
        self.refused(BadRow, lambda: run.guard("a", [(1,)]))
        run.spoil(1, (0, 0, 0, 1))
        run.go(2)
        self.assertEqual(run.caught(), [(1, "a", 1)])

    def test_houses_that_there_are_not(self):
        run = Run(helper.pairs_net("sa ax"), "s", [(1,)])
        for name, call in product(("k", "", "ss"), (run.rank, run.rows, run.knows)):
            self.refused(NoHouse, lambda: call(name), name=name)
            self.refused(NoHouse, lambda: call(house=name), name=name)


class TestOwners(RunCase):
    def test_what_was_handed_in_may_be_changed_and_is_not(self):
        net, words, keys = helper.pairs_net("sa ax"), [(1, 2), (2, 1)], [(1, 0), (0, 1)]
        run, other = [Run(net, "s", words, size=3, seed=1) for _ in range(2)]
        run.guard("x", keys)
        other.guard("x", [(1, 0), (0, 1)])
        self.assertEqual((words, keys), ([(1, 2), (2, 1)], [(1, 0), (0, 1)]))
        self.assertTrue(net == helper.pairs_net("sa ax"))
        net.cut(1)
        net.line("a", "x", slow=4, number=1)
        net.house("new")
        words[0] = (0, 0)
        words.clear()
        keys.clear()
        twin = run.twin()
        for one in (run, other, twin):
            one.spoil(1, (0, 0, 1, 1))
            one.go(6)
        self.assertEqual(told(run, "asx"), told(other, "asx"))
        self.assertEqual(told(run, "asx"), told(twin, "asx"))
        self.assertTrue(run.caught())
        self.refused(NoHouse, lambda: run.rows("new"), name="new")

    def test_what_is_told_may_be_changed(self):
        run = Run(helper.pairs_net(RINGED), "s", [(1, 2), (3, 4)], size=5, seed=8)
        run.guard("c", [(1, 0)])
        for turn in range(5):
            run.spoil(1, (0, 0, 1, 0))
            run.spoil(2, (0, 0, 0, 1))
            run.go()
        before = told(run, "abcdsxy")
        self.assertTrue(run.caught() and run.clashes())
        for ask in (run.clashes, run.caught, run.sent, lambda: run.rows("s"), lambda: run.knows("s")):
            self.assertFalse(ask() is ask())
            ask().clear()
        self.assertEqual(told(run, "abcdsxy"), before)
        run.go(2)
        self.assertGreater(len(run.sent()), 0)

    def test_kinds(self):
        run = Run(helper.pairs_net("sx"), "s", [(1,)], size=3)
        run.spoil(1, (0, 1))
        run.guard("x", [(1,)])
        run.go(3)
        for thing in run.sent() + run.caught() + run.rows("s") + [row for _, _, row in run.sent()]:
            self.assertIsInstance(thing, tuple)
        self.assertIsInstance(run.knows("s")[0], tuple)

    def test_runs_have_nothing_to_do_with_one_another(self):
        net = helper.pairs_net("sx")
        run, other = [Run(net, "s", [(1,)], size=3) for _ in range(2)]
        run.lose(1)
        run.go(4)
        self.assertEqual((other.turn(), other.sent()), (0, []))
        other.lose(1)


if __name__ == "__main__":
    unittest.main()
