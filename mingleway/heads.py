"""Heads of lines: by which shares of the letters a row on a line is mixed."""

from mingleway.fields import plain_mix, unit_row
from mingleway.spans import Span


def letter_keys(letters):
    """Numbers that stand for the letters where else numbers of lines stand; no line has such a one."""
    return [-1 - at for at in range(letters)]


def feeds_of(task):
    """What the mixers of each line mix: lines into its house or, at the source, letters.

    The lines stand in an order in which each comes behind all those that it is mixed from.
    """
    net = task.net()
    feeds = {}
    for house in net.order():
        mixed_there = letter_keys(task.letters()) if house == task.source() else net.into(house)
        for number in net.out_of(house):
            feeds[number] = mixed_there
    return feeds


class Heads:
    """The heads under a loss, found line by line."""

    def __init__(self, field, letters, loss):
        self.own_field = field
        self.own_letters = letters
        self.lost = loss
        self.found = {key: unit_row(letters, at) for at, key in enumerate(letter_keys(letters))}

    def lead(self, number, feeds, mixers):
        """Finds the head of a line whose feeds have theirs already."""
        head = (0,) * self.own_letters
        if number not in self.lost:
            head = plain_mix(self.own_field, self.rows_of(feeds), mixers, self.own_letters)
        self.found[number] = head

    def rows_of(self, numbers):
        return [self.found[number] for number in numbers]

    def serve(self, numbers):
        """Whether the heads of these lines have all rows in their span."""
        return len(Span(self.own_field, self.own_letters, rows=self.rows_of(numbers))) == self.own_letters


def heads_under(task, feeds, mixers, loss):
    """The heads of all lines under a loss."""
    heads = Heads(task.field(), task.letters(), loss)
    for number in feeds:
        heads.lead(number, feeds[number], mixers[number])
    return heads
