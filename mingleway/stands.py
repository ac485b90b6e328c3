"""How a run stands: what its houses have, what is under way, and what was told of it so far."""

from mingleway.fields import plain_mix, unit_row
from mingleway.spans import Span


class Stand:
    """All that a turn changes. A run keeps the one it had and leads a twin on, so none that is kept ever changes."""

    def __init__(self, field, letters, kept):
        self.own_field = field
        self.own_letters = letters
        # By each house its rows, in the order in which they were kept.
        self.kept = {house: list(kept[house]) for house in kept}
        # Tuples: when it is due, its line, 0 for the first time or 1 again, when it was sent, and the row.
        self.under_way = []
        self.own_guards = {}
        self.all_clashes = []
        self.all_caught = []
        self.all_sent = []

    def twin(self):
        alike = Stand(self.own_field, self.own_letters, self.kept)
        alike.under_way = list(self.under_way)
        alike.own_guards = dict(self.own_guards)
        alike.all_clashes = list(self.all_clashes)
        alike.all_caught = list(self.all_caught)
        alike.all_sent = list(self.all_sent)
        return alike

    def head_span(self, house):
        heads = [row[:self.own_letters] for row in self.kept[house]]
        return Span(self.own_field, self.own_letters, rows=heads)

    def mix_at(self, house, shares, width):
        return plain_mix(self.own_field, self.kept[house], shares, width)

    def take_due(self, turn):
        """The rows due at this turn, as (line, row), in the order in which they come; they are under way no more."""
        due = sorted([moving[1:] for moving in self.under_way if moving[0] == turn])
        self.under_way = [moving for moving in self.under_way if moving[0] != turn]
        return [(line, row) for line, comes_again, sent, row in due]

    def come(self, turn, house, line, row):
        """A row comes to a house: it is caught, kept, known already, or a clash."""
        if house in self.own_guards and not self.own_guards[house].lets(row):
            self.all_caught.append((turn, house, line))
            return
        shares = self.head_span(house).shares(row[:self.own_letters])
        if shares is None:
            self.kept[house].append(row)
        elif self.mix_at(house, shares, len(row)) != row:
            self.all_clashes.append((turn, house, line))

    def known_words(self, house):
        span = self.head_span(house)
        words = {}
        for letter in span.sure():
            shares = span.shares(unit_row(self.own_letters, letter))
            bodies = [row[self.own_letters:] for row in self.kept[house]]
            words[letter] = plain_mix(self.own_field, bodies, shares, len(bodies[0]))
        return words
