import unittest

import helper
from mingleway import fields
from mingleway.errors import BadNumber, BadRow, BadSize, NoShare
from mingleway.fields import Field, mixed


class TestField(unittest.TestCase):
    def pairs(self):
        for size in helper.SIZES:
            field = Field(size)
            for one in range(size):
                for other in range(size):
                    yield size, field, one, other

    def test_constants(self):
        self.assertEqual(fields.SIZES, (2, 3, 4, 5, 7, 8, 9, 11, 13, 16))
        self.assertIsInstance(fields.SIZES, tuple)
        self.assertEqual(fields.COMMON_SIZE, 16)

    def test_sizes_and_bases(self):
        bases = {2: 2, 3: 3, 4: 2, 5: 5, 7: 7, 8: 2, 9: 3, 11: 11, 13: 13, 16: 2}
        for size, base in bases.items():
            with self.subTest(size):
                field = Field(size)
                self.assertEqual((field.size(), field.base(), len(field)), (size, base, size))
                self.assertEqual((repr(field), str(field)), (f"Field({size})", f"field of {size}"))
        self.assertEqual(Field(size=9).size(), 9)

    def test_size_left_out_is_the_common_one(self):
        self.assertEqual(Field().size(), 16)
        self.assertEqual(Field(), Field(fields.COMMON_SIZE))

    def test_other_sizes_are_refused(self):
        others = [size for size in range(-20, 40) if size not in helper.SIZES]
        for size in others + [25, 27, 32, 64, 256, helper.LONG, -helper.LONG, helper.VERY_LONG, -helper.VERY_LONG]:
            with self.assertRaises(BadSize):
                Field(size)

    def test_equal_where_the_sizes_are(self):
        for one in helper.SIZES:
            for other in helper.SIZES:
                self.assertIs(Field(one) == Field(other), one == other)
                self.assertIs(Field(one) != Field(other), one != other)

    def test_equal_to_nothing_else(self):
        for other in (4, "Field(4)", None, [0, 1, 2, 3], (4,), fields):
            self.assertIs(Field(4) == other, False)
            self.assertIs(other == Field(4), False)
            self.assertIs(Field(4) != other, True)

    def test_sums_and_differences(self):
        for size, field, one, other in self.pairs():
            total = helper.plus(size, one, other)
            self.assertEqual(field.plus(one, other), total, (size, one, other))
            self.assertEqual(field.less(total, other), one, (size, one, other))

    def test_products_and_quotients(self):
        for size, field, one, other in self.pairs():
            product = helper.times(size, one, other)
            self.assertEqual(field.times(one, other), product, (size, one, other))
            if other != 0:
                self.assertEqual(field.over(product, other), one, (size, one, other))

    def test_the_rules_as_they_are_written(self):
        self.assertEqual(Field(4).times(2, 2), 3)
        self.assertEqual(Field(8).times(Field(8).times(2, 2), 2), 3)
        self.assertEqual(Field(9).times(3, 3), 2)
        self.assertEqual(Field(16).power(2, 4), 3)
        self.assertEqual(Field(9).plus(5, 4), 6)
        self.assertEqual(Field(16).plus(9, 12), 5)
        self.assertEqual(Field(7).over(1, 3), 5)

    def test_names_of_the_arguments(self):
        field = Field(5)
        self.assertEqual(field.plus(other=4, one=3), 2)
        self.assertEqual(field.less(other=4, one=3), 4)
        self.assertEqual(field.times(other=4, one=3), 2)
        self.assertEqual(field.over(other=4, one=3), 2)
        self.assertEqual(field.power(many=2, one=3), 4)

    def test_nothing_is_divided_by_nought(self):
        for size in helper.SIZES:
            for one in range(size):
                with self.assertRaises(NoShare):
                    Field(size).over(one, 0)

    def test_other_numbers_are_refused(self):
        for size in helper.SIZES:
            field = Field(size)
            for deed in (field.plus, field.less, field.times, field.over):
                for wrong in (-1, -size, size, size + 1, helper.LONG, -helper.LONG, helper.VERY_LONG):
                    for pair in ((wrong, 1), (1, wrong), (wrong, wrong), (wrong, 0), (0, wrong)):
                        with self.assertRaises(BadNumber):
                            deed(*pair)

    def test_powers(self):
        for size in helper.SIZES:
            field = Field(size)
            for one in range(size):
                wanted = 1
                for many in range(3 * size):
                    self.assertEqual(field.power(one, many), wanted, (size, one, many))
                    wanted = helper.times(size, wanted, one)

    def test_very_long_powers(self):
        for size in helper.SIZES:
            field = Field(size)
            rounds = (size - 1) * helper.VERY_LONG
            for one in range(1, size):
                self.assertEqual(field.power(one, rounds), 1)
                self.assertEqual(field.power(one, rounds + 1), one)
                self.assertEqual(field.power(one, (size - 1) * helper.LONG + 2), field.times(one, one))
            for many in (helper.LONG, rounds):
                self.assertEqual(field.power(0, many), 0)

    def test_wrong_powers_are_refused(self):
        for size in helper.SIZES:
            for one, many in ((0, -1), (1, -1), (1, -helper.VERY_LONG), (-1, 0), (size, 0), (size, 2), (-1, -1),
                              (helper.VERY_LONG, 1), (size, helper.VERY_LONG)):
                with self.assertRaises(BadNumber):
                    Field(size).power(one, many)

    def test_a_refusal_leaves_the_field_as_it_was(self):
        field = Field(8)
        for deed, pair in ((field.over, (1, 0)), (field.plus, (8, 1)), (field.power, (1, -1))):
            with self.assertRaises((BadNumber, NoShare)):
                deed(*pair)
        self.assertEqual(field, Field(8))
        self.assertEqual([field.times(3, other) for other in range(8)], [Field(8).times(3, n) for n in range(8)])


class TestMixed(unittest.TestCase):
    def test_no_rows(self):
        self.assertEqual(mixed(Field(5), [], [], width=3), (0, 0, 0))
        self.assertEqual(mixed(Field(5), [], [], width=0), ())

    def test_several_rows(self):
        for size in helper.SIZES:
            rows = [tuple((at * at + 3 * place + 1) % size for place in range(5)) for at in range(4)]
            for first in range(size):
                shares = [first, 1, 0, size - 1]
                told = mixed(Field(size), rows, shares, width=5)
                self.assertEqual(told, helper.mix(size, 5, rows, shares))
                self.assertIsInstance(told, tuple)

    def test_names_of_the_arguments(self):
        self.assertEqual(mixed(width=2, shares=[2], rows=[(1, 2)], field=Field(3)), (2, 1))
        with self.assertRaises(TypeError):
            mixed(Field(3), [(1, 2)], [2], 2)

    def test_wrong_rows(self):
        for rows in ([(1, 2)], [(1, 2, 3, 4)], [()], [(1, 2, 5)], [(1, -1, 2)], [(0, 0, helper.VERY_LONG)],
                     [(1, 2, 3), (1, 2)], [(1, 2, 3), (4, 4, 5)]):
            with self.subTest(len(rows)), self.assertRaises(BadRow):
                mixed(Field(5), rows, [1] * len(rows), width=3)

    def test_wrong_shares(self):
        rows = [(1, 2), (3, 4)]
        for shares in ([], [1], [1, 1, 1], [1, 5], [-1, 1], [helper.VERY_LONG, 1], [5, 5, 5]):
            with self.subTest(len(shares)), self.assertRaises(BadNumber):
                mixed(Field(5), rows, shares, width=2)
        with self.assertRaises(BadNumber):
            mixed(Field(5), [], [0], width=2)

    def test_rows_are_looked_at_first(self):
        for rows, shares in (([(1, 2), (3,)], [9, 1]), ([(1, 2), (3, 9)], [1]), ([(1, 2, 3)], [])):
            with self.assertRaises(BadRow):
                mixed(Field(5), rows, shares, width=2)

    def test_handed_lists_stay(self):
        rows, shares = [(1, 2), (3, 4)], [4, 2]
        mixed(Field(5), rows, shares, width=2)
        self.assertEqual((rows, shares), ([(1, 2), (3, 4)], [4, 2]))
        for wrong in ([4], [4, 5]):
            kept = list(wrong)
            with self.assertRaises(BadNumber):
                mixed(Field(5), rows, wrong, width=2)
            self.assertEqual((rows, wrong), ([(1, 2), (3, 4)], kept))


if __name__ == "__main__":
    unittest.main()
