import random
import unittest
from itertools import product

import helper
from mingleway.errors import BadRow
from mingleway.fields import Field
from mingleway.sums import Guard, check_of, passes

WRONG_WORDS = ([], [()], [(), ()], [(1,), (1, 2)], [(1, 2), (1,)], [(1, 2), ()], [(), (1, 2)])


def check_by_the_words(size, words, key):
    sums = []
    for word in words:
        total = 0
        for one, other in zip(word, key):
            total = helper.plus(size, total, helper.times(size, one, other))
        sums.append(next(number for number in range(size) if helper.plus(size, number, total) == 0))
    return tuple(sums) + tuple(key)


def sums_to_nought(size, one, other):
    total = 0
    for number, more in zip(one, other):
        total = helper.plus(size, total, helper.times(size, number, more))
    return total == 0


def letter_rows(words):
    return [tuple(int(at == place) for at in range(len(words))) + tuple(word) for place, word in enumerate(words)]


def sample_row(chance, size, width):
    return tuple(chance.choice((0, chance.randrange(size))) for _ in range(width))


def samples(many, sizes=helper.SIZES, most_width=4, most_keys=4):
    chance = random.Random(31)
    for sample in range(many):
        size, width, letters = chance.choice(sizes), chance.randint(1, most_width), chance.randint(1, 4)
        words = [sample_row(chance, size, width) for _ in range(letters)]
        keys = [sample_row(chance, size, width) for _ in range(chance.randint(0, most_keys))]
        yield chance, size, words, keys


class TestCheckOf(unittest.TestCase):
    def test_by_the_words(self):
        for chance, size, words, keys in samples(120):
            for key in keys:
                told = check_of(Field(size), words, key)
                self.assertIsInstance(told, tuple)
                self.assertEqual(told, check_by_the_words(size, words, key))

    def test_by_hand(self):
        self.assertEqual(check_of(Field(7), [(1, 2), (3, 4)], (5, 6)), (7 - 17 % 7, 7 - 39 % 7, 5, 6))
        self.assertEqual(check_of(key=(1,), words=[(4,)], field=Field(16)), (4, 1))
        self.assertEqual(check_of(Field(3), [(0, 0)], (2, 1)), (0, 2, 1))
        # More words than a task has letters are let here.
        self.assertEqual(check_of(Field(5), [(1,)] * 300, (1,)), (4,) * 300 + (1,))

    def test_refusals(self):
        field = Field(3)
        for words in WRONG_WORDS + ([(3, 0)], [(0, -1)], [(1, 1), (1, helper.LONG)]):
            for key in ((1, 2), (1,), (), (9, 9)):
                self.assertRaises(BadRow, check_of, field, words, key)
        for key in ((), (1,), (1, 1, 1), (3, 0), (0, -1), (helper.LONG, 0)):
            self.assertRaises(BadRow, check_of, field, [(1, 2), (0, 0)], key)


class TestPasses(unittest.TestCase):
    def test_by_the_words(self):
        met = set()
        for chance, size, words, keys in samples(200):
            width = len(words) + len(words[0])
            for check in [check_by_the_words(size, words, key) for key in keys]:
                row = sample_row(chance, size, width)
                met.add(passes(Field(size), check, row))
                self.assertIs(passes(Field(size), check, row), sums_to_nought(size, check, row))
        self.assertEqual(met, {True, False})

    def test_each_mix_of_the_letters_rows_passes(self):
        for chance, size, words, keys in samples(80):
            width = len(words) + len(words[0])
            for key in keys:
                shares = [chance.randrange(size) for _ in words]
                row = helper.mix(size, width, letter_rows(words), shares)
                self.assertIs(passes(Field(size), check_of(Field(size), words, key), row), True)

    def test_by_hand(self):
        self.assertIs(passes(Field(7), (1, 2, 3), (4, 5, 0)), True)
        self.assertIs(passes(row=(4, 5, 1), check=(1, 2, 3), field=Field(7)), False)
        self.assertIs(passes(Field(7), (0,), (6,)), True)
        self.assertIs(passes(Field(7), (), ()), True)

    def test_refusals(self):
        field = Field(4)
        for check, row in (((1, 2), (1,)), ((1,), (1, 2)), ((), (1,)), ((1,), ()), ((4,), (0,)), ((0,), (4,)),
                           ((-1, 0), (0, 0)), ((0, 0), (0, helper.LONG)), ((9, 9), (9, 9))):
            self.assertRaises(BadRow, passes, field, check, row)


class TestGuard(unittest.TestCase):
    def test_against_all_rows(self):
        met = set()
        for chance, size, words, keys in samples(70, sizes=(2, 3), most_width=3):
            width = len(words) + len(words[0])
            if size ** width > 800:
                continue
            guard = Guard(Field(size), words, keys)
            checks = [check_by_the_words(size, words, key) for key in keys]
            let = [row for row in helper.all_rows(size, width) if guard.lets(row)]
            self.assertEqual(let, [row for row in helper.all_rows(size, width)
                                   if all(sums_to_nought(size, check, row) for check in checks)])
            independent = helper.rank(size, keys)
            self.assertEqual(len(let), size ** (width - independent))
            self.assertEqual(guard.room(), len(let))
            self.assertEqual(guard.checks(), checks)
            met.add((independent == len(keys), independent == len(words[0])))
            if independent == len(words[0]):
                self.assertEqual(set(let), helper.all_mixes(size, width, letter_rows(words)))
        self.assertEqual(met, set(product((True, False), repeat=2)))

    def test_in_each_size(self):
        for chance, size, words, keys in samples(80):
            guard = Guard(Field(size), words, keys)
            width = len(words) + len(words[0])
            checks = [check_by_the_words(size, words, key) for key in keys]
            self.assertEqual(guard.checks(), checks)
            self.assertEqual(guard.room(), size ** (width - helper.rank(size, keys)))
            for row in [sample_row(chance, size, width) for _ in range(5)] + letter_rows(words):
                self.assertIs(guard.lets(row), all(sums_to_nought(size, check, row) for check in checks))

    def test_no_keys_and_keys_of_noughts(self):
        for keys in ([], (), [(0, 0)], [(0, 0), (0, 0)]):
            guard = Guard(Field(5), [(1, 2), (3, 4)], keys)
            self.assertEqual(guard.checks(), [(0, 0, 0, 0)] * len(keys))
            self.assertEqual(guard.room(), 5 ** 4)
            self.assertIs(guard.lets((4, 0, 3, 1)), True)
            self.assertRaises(BadRow, guard.lets, (4, 0, 3))
            self.assertRaises(BadRow, guard.lets, (4, 0, 3, 5))

    def test_dependent_keys(self):
        guard = Guard(keys=[(1, 2), (2, 4), (1, 2)], words=[(1, 1)], field=Field(5))
        self.assertEqual(guard.checks(), [(2, 1, 2), (4, 2, 4), (2, 1, 2)])
        self.assertEqual(guard.room(), 25)
        self.assertIs(guard.lets(row=(1, 1, 1)), True)
        self.assertIs(guard.lets((1, 1, 2)), False)

    def test_far_room(self):
        self.assertEqual(Guard(Field(16), [(1,) * 300], [(1,) * 300]).room(), 16 ** 300)

    def test_refusals(self):
        field = Field(3)
        for words in WRONG_WORDS + ([(3, 0)], [(1, 1), (1, -1)]):
            for keys in ([], [(1, 2)], [(9,)]):
                self.assertRaises(BadRow, Guard, field, words, keys)
        for key in ((), (1,), (1, 1, 1), (3, 0), (0, -1), (helper.LONG, 0)):
            for keys in ([key], [(1, 2), key], [key, (1, 2)], ((0, 0), key)):
                self.assertRaises(BadRow, Guard, field, [(1, 2), (0, 0)], keys)
        guard = Guard(field, [(1, 2), (0, 0)], [(1, 1)])
        for row in ((), (1, 1), (0, 0, 0), (0, 0, 0, 0, 0), (0, 0, 0, 3), (-1, 0, 0, 0), (0, 0, helper.LONG, 0)):
            self.assertRaises(BadRow, guard.lets, row)
        self.assertEqual((guard.checks(), guard.room()), ([(0, 0, 1, 1)], 27))

    def test_lists_of_the_owner_and_of_the_asker(self):
        words, keys = [(1, 2), (3, 4)], [(1, 0), (2, 2)]
        guard = Guard(Field(5), words, keys)
        self.assertEqual((words, keys), ([(1, 2), (3, 4)], [(1, 0), (2, 2)]))
        checks = guard.checks()
        words.clear()
        keys.append((0, 0))
        keys[0] = (4, 4)
        self.assertEqual((guard.checks(), guard.room()), (checks, 25))
        guard.checks().clear()
        self.assertEqual(guard.checks(), [(4, 2, 1, 0), (4, 1, 2, 2)])
        self.assertIs(guard.lets((1, 0, 1, 2)), True)
        self.assertIs(guard.lets((1, 0, 1, 3)), False)
        self.assertFalse(guard.checks() is guard.checks())


if __name__ == "__main__":
    unittest.main()
