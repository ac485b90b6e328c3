import unittest

import helper
from mingleway.errors import BadRow
from mingleway.fields import Field, mixed
from mingleway.spans import Span, null_rows

# Sizes and widths small enough that all rows of all mixes can be gone through.
SMALL = ((2, 4), (3, 3), (4, 3), (5, 2), (7, 2), (8, 2), (9, 2), (11, 2), (13, 2), (16, 2))


def sample_rows(size, width, many, seed):
    """Rows without a plain pattern, some of them mixes of those ahead of them."""
    rows = []
    number = seed * 7919 + size
    for at in range(many):
        row = []
        for place in range(width):
            number = (number * 48271 + 11) % 2147483647
            row.append(number // 64 % size)
        rows.append(tuple(row))
        if at % 2 == 1:
            rows.append(helper.mix(size, width, rows, [(number + k) % size for k in range(len(rows))]))
    return rows


def wrong_rows(size, width):
    right = (1,) * width
    return [right[1:], right + (0,), (), right[1:] + (size,), (-1,) + right[1:], (helper.VERY_LONG,) + right[1:]]


class TestSpan(unittest.TestCase):
    def samples(self):
        for size, width in SMALL:
            for seed in range(4):
                yield size, width, sample_rows(size, width, width, seed)

    def held_against(self, span, size, width, kept):
        """Every answer of the span, for all rows that there are."""
        mixes = helper.all_mixes(size, width, kept)
        field = Field(size)
        for row in helper.all_rows(size, width):
            self.assertIs(span.holds(row), row in mixes)
            shares = span.shares(row)
            if row in mixes:
                self.assertEqual(len(shares), len(kept))
                self.assertEqual(mixed(field, kept, shares, width=width), row)
            else:
                self.assertIsNone(shares)
        self.assertTrue(helper.is_reduced(span.rows()))
        self.assertEqual(helper.all_mixes(size, width, span.rows()), mixes)
        ones = [tuple(int(at == place) for at in range(width)) for place in range(width)]
        self.assertEqual(span.sure(), [place for place, row in enumerate(ones) if row in mixes])
        self.assertEqual((len(span), repr(span)), (len(kept), f"Span({len(kept)} of {width})"))

    def test_rows_put_in_one_by_one(self):
        for size, width, rows in self.samples():
            with self.subTest(size=size, rows=rows):
                span, kept = Span(Field(size), width), []
                for row in rows:
                    new = row not in helper.all_mixes(size, width, kept)
                    self.assertIs(span.put(row), new)
                    if new:
                        kept.append(row)
                self.held_against(span, size, width, kept)

    def test_answers_behind_each_putting(self):
        span, kept = Span(Field(3), 4), []
        self.held_against(span, 3, 4, kept)
        for row in ((0, 2, 1, 0), (0, 0, 0, 0), (0, 1, 2, 0), (1, 1, 1, 2), (1, 2, 0, 2), (0, 0, 2, 0), (2, 0, 0, 0)):
            if span.put(row):
                kept.append(row)
            self.held_against(span, 3, 4, kept)
        self.assertEqual(kept, [(0, 2, 1, 0), (1, 1, 1, 2), (0, 0, 2, 0), (2, 0, 0, 0)])

    def test_rows_handed_in_by_their_keyword(self):
        for size, width, rows in self.samples():
            span = Span(Field(size), width)
            for row in rows:
                span.put(row)
            for handed in (rows, tuple(rows)):
                other = Span(Field(size), width, rows=handed)
                self.assertEqual(other, span)
                self.assertEqual([other.shares(row) for row in rows], [span.shares(row) for row in rows])
        self.assertEqual(len(Span(rows=[(1, 2)], width=2, field=Field(3))), 1)
        with self.assertRaises(TypeError):
            Span(Field(3), 2, [(1, 2)])

    def test_names_of_the_arguments(self):
        span = Span(Field(3), 2)
        self.assertIs(span.put(row=(1, 2)), True)
        self.assertIs(span.holds(row=(2, 1)), True)
        self.assertEqual(span.shares(row=(2, 1)), [2])

    def test_reduced_rows_as_they_are_written(self):
        span = Span(Field(7), 4, rows=[(0, 0, 3, 6), (2, 4, 1, 0), (2, 4, 4, 6)])
        self.assertEqual(span.rows(), [(1, 2, 0, 6), (0, 0, 1, 2)])
        self.assertEqual(repr(Span(Field(7), 5, rows=[(1, 0, 0, 0, 0), (0, 1, 0, 0, 0)])), "Span(2 of 5)")
        self.assertTrue(all(isinstance(row, tuple) for row in span.rows()))

    def test_shares_grow_with_further_puttings(self):
        span = Span(Field(5), 3, rows=[(1, 2, 0)])
        self.assertEqual(span.shares((3, 1, 0)), [3])
        self.assertIsNone(span.shares((0, 0, 1)))
        self.assertIs(span.put((2, 4, 0)), False)
        self.assertEqual(span.shares((3, 1, 0)), [3])
        self.assertIs(span.put((1, 2, 4)), True)
        self.assertEqual(span.shares((3, 1, 0)), [3, 0])
        self.assertEqual(span.shares((0, 0, 1)), [1, 4])
        self.assertIs(span.put((1, 0, 0)), True)
        self.assertEqual(span.shares((0, 0, 1)), [1, 4, 0])
        self.assertEqual(span.shares((0, 1, 0)), [3, 0, 2])

    def test_noughts_and_no_width(self):
        span = Span(Field(4), 3)
        self.assertEqual((span.shares((0, 0, 0)), span.holds((0, 0, 0)), span.put((0, 0, 0))), ([], True, False))
        self.assertEqual((len(span), span.rows(), span.sure(), repr(span)), (0, [], [], "Span(0 of 3)"))
        empty = Span(Field(4), 0)
        self.assertEqual((empty.put(()), empty.holds(()), empty.shares(())), (False, True, []))
        self.assertEqual((len(empty), empty.rows(), empty.sure(), repr(empty)), (0, [], [], "Span(0 of 0)"))

    def test_sure(self):
        span = Span(Field(2), 4, rows=[(1, 0, 0, 1), (0, 1, 0, 0)])
        self.assertEqual(span.sure(), [1])
        span.put((0, 0, 0, 1))
        self.assertEqual(span.sure(), [0, 1, 3])
        span.put((1, 1, 1, 1))
        self.assertEqual(span.sure(), [0, 1, 2, 3])

    def test_a_wide_span(self):
        size, width = 16, 60
        rows = sample_rows(size, width, 40, 5)
        span, kept = Span(Field(size), width), []
        for row in rows:
            if span.put(row):
                kept.append(row)
        self.assertEqual(len(kept), 40)
        self.assertTrue(helper.is_reduced(span.rows()))
        for row in rows:
            self.assertEqual(helper.mix(size, width, kept, span.shares(row)), row)

    def test_twins_go_apart(self):
        span = Span(Field(5), 3, rows=[(1, 2, 3)])
        twin = span.twin()
        self.assertEqual(twin, span)
        self.assertEqual(twin.shares((2, 4, 1)), [2])
        twin.put((0, 1, 1))
        self.assertEqual((span.rows(), len(span)), ([(1, 2, 3)], 1))
        self.assertNotEqual(twin, span)
        span.put((0, 0, 1))
        self.assertEqual(span.rows(), [(1, 2, 0), (0, 0, 1)])
        self.assertEqual(twin.rows(), [(1, 0, 1), (0, 1, 1)])
        self.assertEqual(twin.shares((1, 3, 4)), [1, 1])
        self.assertEqual(span.shares((1, 2, 4)), [1, 1])

    def test_equal_where_field_width_and_span_are(self):
        one = Span(Field(5), 2, rows=[(1, 2), (0, 1)])
        self.assertIs(one == Span(Field(5), 2, rows=[(3, 3), (2, 2), (4, 0)]), True)
        self.assertIs(one != Span(Field(5), 2, rows=[(3, 3), (2, 2), (4, 0)]), False)
        for other in (Span(Field(7), 2, rows=[(1, 0), (0, 1)]), Span(Field(5), 2, rows=[(1, 2)]),
                      Span(Field(5), 3, rows=[(1, 2, 0), (0, 1, 0)])):
            self.assertIs(one == other, False)
            self.assertIs(one != other, True)
        self.assertIs(Span(Field(5), 2, rows=[(1, 2)]) == Span(Field(5), 2, rows=[(1, 3)]), False)
        self.assertIs(Span(Field(5), 2) == Span(Field(5), 3), False)
        self.assertIs(Span(Field(5), 2) == Span(Field(7), 2), False)
        self.assertIs(Span(Field(5), 2) == Span(Field(5), 2), True)

    def test_equal_to_nothing_else(self):
        span = Span(Field(5), 2, rows=[(1, 2)])
        for other in (1, None, [(1, 2)], "Span(1 of 2)", Field(5), (1, 2)):
            self.assertIs(span == other, False)
            self.assertIs(other == span, False)
            self.assertIs(span != other, True)

    def test_told_lists_are_made_afresh(self):
        span = Span(Field(5), 3, rows=[(1, 0, 0), (0, 1, 2)])
        for ask in (span.rows, span.sure, lambda: span.shares((1, 1, 2))):
            told = ask()
            wanted = list(told)
            told.append(99)
            told[0] = 98
            self.assertEqual(ask(), wanted)
            self.assertIsNot(ask(), ask())

    def test_asking_changes_nothing(self):
        span = Span(Field(5), 3, rows=[(1, 0, 2), (0, 1, 2)])
        kept = span.twin()
        for row in helper.all_rows(5, 3):
            span.holds(row)
            span.shares(row)
        span.sure(), span.rows(), span.twin(), len(span), repr(span), span == kept
        self.assertEqual(span, kept)
        self.assertEqual(span.shares((1, 1, 4)), [1, 1])

    def test_handed_lists_are_not_kept(self):
        rows = [(1, 2), (2, 4)]
        span = Span(Field(5), 2, rows=rows)
        self.assertEqual(rows, [(1, 2), (2, 4)])
        rows[0] = (0, 1)
        rows.append((1, 0))
        self.assertEqual((span.rows(), span.shares((2, 4))), ([(1, 2)], [2]))

    def test_wrong_rows_leave_the_span_as_it_was(self):
        for size in helper.SIZES:
            span = Span(Field(size), 3, rows=[(1, 0, 1), (0, 1, 1)])
            kept = span.twin()
            for row in wrong_rows(size, 3):
                for deed in (span.put, span.holds, span.shares):
                    with self.assertRaises(BadRow):
                        deed(row)
                    self.assertEqual((span, span.rows()), (kept, kept.rows()))
                    self.assertEqual(span.shares((1, 1, helper.plus(size, 1, 1))), [1, 1])

    def test_wrong_rows_handed_in(self):
        for row in wrong_rows(4, 2):
            rows = [(1, 0), (0, 1), row]
            with self.assertRaises(BadRow):
                Span(Field(4), 2, rows=rows)
            self.assertEqual(rows, [(1, 0), (0, 1), row])

    def test_a_full_span_still_looks_at_rows(self):
        span = Span(Field(4), 2, rows=[(1, 0), (0, 1)])
        self.assertIs(span.put((3, 2)), False)
        for deed in (span.put, span.holds, span.shares):
            with self.assertRaises(BadRow):
                deed((4, 0))


class TestNullRows(unittest.TestCase):
    def test_just_the_rows_that_null_all(self):
        for size, width in SMALL:
            for many in range(width + 1):
                rows = sample_rows(size, width, many, many)
                told = null_rows(Field(size), width, rows)
                wanted = {null for null in helper.all_rows(size, width)
                          if all(self.summed(size, null, row) == 0 for row in rows)}
                self.assertTrue(helper.is_reduced(told), (size, rows))
                self.assertEqual(helper.all_mixes(size, width, told), wanted, (size, rows))

    def summed(self, size, one, other):
        total = 0
        for a, b in zip(one, other):
            total = helper.plus(size, total, helper.times(size, a, b))
        return total

    def test_no_rows(self):
        self.assertEqual(null_rows(Field(3), 3, []), [(1, 0, 0), (0, 1, 0), (0, 0, 1)])
        self.assertEqual(null_rows(Field(3), 0, []), [])
        self.assertEqual(null_rows(Field(3), 0, [()]), [])
        self.assertEqual(null_rows(Field(3), 2, [(0, 0)]), [(1, 0), (0, 1)])

    def test_dependent_rows(self):
        self.assertEqual(null_rows(Field(9), 3, [(1, 0, 2), (0, 1, 1), (2, 1, 2), (1, 0, 2)]), [(1, 2, 1)])

    def test_rows_that_fill_the_width(self):
        for size in helper.SIZES:
            self.assertEqual(null_rows(Field(size), 2, [(1, 1), (0, 1), (1, 0)]), [])

    def test_names_of_the_arguments_and_kinds(self):
        told = null_rows(rows=[(1, 1)], width=2, field=Field(2))
        self.assertEqual(told, [(1, 1)])
        self.assertIsInstance(told, list)
        self.assertIsInstance(told[0], tuple)

    def test_wrong_rows(self):
        for row in wrong_rows(5, 2):
            rows = [(1, 1), (0, 1), row]
            with self.assertRaises(BadRow):
                null_rows(Field(5), 2, rows)
            self.assertEqual(rows, [(1, 1), (0, 1), row])

    def test_the_handed_list_stays(self):
        rows = [(2, 1), (4, 2)]
        self.assertEqual(null_rows(Field(5), 2, rows), null_rows(Field(5), 2, rows))
        self.assertEqual(rows, [(2, 1), (4, 2)])


if __name__ == "__main__":
    unittest.main()
