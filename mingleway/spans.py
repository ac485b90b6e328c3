"""Spans: all mixes of some rows."""

from mingleway.fields import check_row, unit_row


def first_place(row):
    """Where a row begins whose first number that is not 0 is a 1."""
    return row.index(1)


def cleared(field, row, known):
    """The row less so many of the known one that it is 0 where that one begins."""
    return field.mixed_in(row, field.less(0, row[first_place(known)]), known)


class Span:
    """All mixes of the rows that were put in."""

    def __init__(self, field, width, *, rows=()):
        # Nothing can change a field, so it needs no copy.
        self.own_field = field
        self.own_width = width
        # Each of these is a reduced row and, behind it, as many numbers again: the shares by which it is the mix
        # of the rows that were put in and told True (never more than the width). All that is done to the row is
        # done to its shares along with it.
        self.long_rows = []
        for row in rows:
            self.put(row)

    def put(self, row):
        check_row(self.own_field, row, self.own_width)
        rest = self.rest_of(row, self.next_mark())
        begins = [at for at in range(self.own_width) if rest[at] != 0]
        if len(begins) == 0:
            return False
        share = self.own_field.over(1, rest[begins[0]])
        fresh = self.own_field.mixed_in((0,) * len(rest), share, rest)
        others = [cleared(self.own_field, known, fresh) for known in self.long_rows]
        self.long_rows = sorted(others + [fresh], key=first_place)
        return True

    def next_mark(self):
        """The shares of the row that comes next: 1 at its own place."""
        return unit_row(self.own_width, len(self.long_rows))

    def rest_of(self, row, mark):
        """What stays of a row and its shares when all that this span has of it is taken away."""
        rest = tuple(row) + mark
        for known in self.long_rows:
            rest = cleared(self.own_field, rest, known)
        return rest

    def holds(self, row):
        return self.shares(row) is not None

    def shares(self, row):
        check_row(self.own_field, row, self.own_width)
        rest = self.rest_of(row, (0,) * self.own_width)
        if any([number != 0 for number in rest[:self.own_width]]):
            return None
        taken = rest[self.own_width:self.own_width + len(self.long_rows)]
        return [self.own_field.less(0, number) for number in taken]

    def rows(self):
        return [long_row[:self.own_width] for long_row in self.long_rows]

    def sure(self):
        # A row of one 1 that is held is itself a reduced row.
        return [first_place(row) for row in self.rows() if row.count(0) == self.own_width - 1]

    def twin(self):
        other = Span(self.own_field, self.own_width)
        other.long_rows = list(self.long_rows)
        return other

    def __eq__(self, other):
        if not isinstance(other, Span):
            return False
        if self.own_field != other.own_field or self.own_width != other.own_width:
            return False
        return self.rows() == other.rows()

    def __len__(self):
        return len(self.long_rows)

    def __repr__(self):
        return f"Span({len(self.long_rows)} of {self.own_width})"


def null_row(field, width, known, place):
    """The row with 1 at this place, and else noughts but where the known reduced rows begin, that nulls them all."""
    numbers = [0] * width
    numbers[place] = 1
    for row in known:
        numbers[first_place(row)] = field.less(0, row[place])
    return tuple(numbers)


def null_rows(field, width, rows):
    """The reduced rows of all rows that, multiplied place by place with any of these, sum up to 0."""
    known = Span(field, width, rows=rows).rows()
    begins = [first_place(row) for row in known]
    nulls = Span(field, width)
    for place in range(width):
        if place not in begins:
            nulls.put(null_row(field, width, known, place))
    return nulls.rows()
