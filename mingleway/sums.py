"""Check sums, by which rows that are no mixes of the letters' rows are found."""

from mingleway.errors import BadRow
from mingleway.fields import check_row, check_words
from mingleway.spans import Span


def check_some_words(field, words):
    if len(words) == 0:
        raise BadRow("there is one word at least")
    check_words(field, words)


def plain_check(field, words, key):
    """The check of the words by a key, of which nothing is looked at any more."""
    sums = [field.less(0, field.product_sum(word, key)) for word in words]
    return tuple(sums) + tuple(key)


def check_of(field, words, key):
    """A row that sums up to 0 with each mix of the letters' rows."""
    check_some_words(field, words)
    check_row(field, key, len(words[0]))
    return plain_check(field, words, key)


def passes(field, check, row):
    """Whether both, multiplied place by place, sum up to 0."""
    check_row(field, check, len(check))
    check_row(field, row, len(check))
    return field.product_sum(check, row) == 0


class Guard:
    """The checks of some keys."""

    def __init__(self, field, words, keys):
        check_some_words(field, words)
        width = len(words[0])
        for key in keys:
            check_row(field, key, width)
        # Nothing can change a field, so it needs no copy.
        self.own_field = field
        self.own_width = len(words) + width
        self.own_checks = [plain_check(field, words, key) for key in keys]
        self.key_span = Span(field, width, rows=keys)

    def lets(self, row):
        check_row(self.own_field, row, self.own_width)
        return all([self.own_field.product_sum(check, row) == 0 for check in self.own_checks])

    def checks(self):
        return list(self.own_checks)

    def room(self):
        total = 1
        for place in range(self.own_width - len(self.key_span)):
            total *= self.own_field.size()
        return total
