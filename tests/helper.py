"""A slow second telling of what the document says, straight from its words, to hold the program against."""

import unittest
from itertools import combinations, product

from mingleway.nets import Net

SIZES = (2, 3, 4, 5, 7, 8, 9, 11, 13, 16)
FIGURES = {4: (2, 2), 8: (2, 3), 9: (3, 2), 16: (2, 4)}
# For each size the figures, lowest first, of what the first power of x beyond the figures is.
RULES = {4: (1, 1), 8: (1, 1, 0), 9: (2, 0), 16: (1, 1, 0, 0)}
LONG = 10 ** 29 + 7
# More figures than Python writes out.
VERY_LONG = 10 ** 5000 + 1


class RefusalCase(unittest.TestCase):
    def refused(self, error, call, **fields):
        """The call is refused by this very class, with just these fields."""
        with self.assertRaises(error) as caught:
            call()
        self.assertIs(caught.exception.__class__, error)
        self.assertEqual(vars(caught.exception), fields)


def base_of(size):
    return FIGURES.get(size, (size, 1))[0]


def figures(size, number):
    base, many = FIGURES.get(size, (size, 1))
    return [number // base ** at % base for at in range(many)]


def number_of(size, parts):
    return sum(part * base_of(size) ** at for at, part in enumerate(parts))


def plus(size, one, other):
    pairs = zip(figures(size, one), figures(size, other))
    return number_of(size, [(a + b) % base_of(size) for a, b in pairs])


def times(size, one, other):
    if size not in FIGURES:
        return one * other % size
    base, many = FIGURES[size]
    parts = [0] * (2 * many - 1)
    for at, a in enumerate(figures(size, one)):
        for to, b in enumerate(figures(size, other)):
            parts[at + to] = (parts[at + to] + a * b) % base
    while len(parts) > many:
        top = parts.pop()
        for at, part in enumerate(RULES[size]):
            place = len(parts) - many + at
            parts[place] = (parts[place] + top * part) % base
    return number_of(size, parts)


def mix(size, width, rows, shares):
    total = [0] * width
    for row, share in zip(rows, shares):
        total = [plus(size, had, times(size, share, more)) for had, more in zip(total, row)]
    return tuple(total)


def all_rows(size, width):
    return list(product(range(size), repeat=width))


def all_mixes(size, width, rows):
    return {mix(size, width, rows, shares) for shares in product(range(size), repeat=len(rows))}


def lead(row):
    """The place of the first number that is not 0, or None."""
    return next((at for at, number in enumerate(row) if number != 0), None)


def is_reduced(rows):
    leads = [lead(row) for row in rows]
    if None in leads or leads != sorted(set(leads)):
        return False
    return all(row[at] == (1 if at == lead(row) else 0) for row in rows for at in leads)


def rank(size, rows):
    """How many of the rows are independent."""
    left = [list(row) for row in rows]
    found = 0
    for place in range(len(left[0]) if left else 0):
        begun = [row for row in left if row[place] != 0]
        if begun:
            found += 1
            first = begun[0]
            left = [cleared(size, row, first, place) for row in left if row is not first]
    return found


def cleared(size, row, first, place):
    """A mix of both rows that is 0 at this place, and still has the row in it."""
    share = next(share for share in range(size) if plus(size, row[place], times(size, share, first[place])) == 0)
    return [plus(size, one, times(size, share, other)) for one, other in zip(row, first)]


# Lines are told here as (number, one, other, slow), as nets tell them.
def net_of(houses, lines):
    net = Net()
    for house in houses:
        net.house(house)
    for number, one, other, slow in lines:
        net.line(one, other, slow=slow, number=number)
    return net


def pairs_net(text):
    """A net of houses with one-letter names; its lines, `ab bc`, are numbered from 1 on."""
    lines = [(at, pair[0], pair[1], 1) for at, pair in enumerate(text.split(), start=1)]
    return net_of(sorted(set(text) - {" "}), lines)


def sample_lines(chance, houses, many, ringless):
    """So many lines; without rings where they lead from houses to later ones of the list alone."""
    numbers = chance.sample(range(1, 100), many)
    lines = []
    for number in numbers:
        one, other = sorted(chance.sample(range(len(houses)), 2))
        if not ringless and chance.randrange(2):
            one, other = other, one
        lines.append((number, houses[one], houses[other], chance.randint(1, 4)))
    return lines


def breadth(lines, within, lost):
    return sum(one in within and other not in within and number not in lost for number, one, other, _ in lines)


def all_cuts(houses, source, hearer):
    others = [house for house in houses if house not in (source, hearer)]
    for many in range(len(others) + 1):
        for chosen in combinations(others, many):
            yield sorted((source,) + chosen)


def least_breadth(houses, lines, source, hearer, lost=()):
    return min(breadth(lines, within, lost) for within in all_cuts(houses, source, hearer))


def heads(size, letters, source, lines, mixers, loss):
    """The heads of all lines, each found from its end back to the source."""
    ends = {number: (one, other) for number, one, other, _ in lines}

    def head(number):
        if number in loss:
            return (0,) * letters
        house = ends[number][0]
        if house == source:
            return mixers[number]
        fed = sorted(line for line in ends if ends[line][1] == house)
        return mix(size, letters, [head(line) for line in fed], mixers[number])

    return {number: head(number) for number in ends}


def sample_mixers(chance, task):
    """Mixers without a plain pattern, noughts and ones more often than others."""
    size = task.field().size()
    return {
        line[0]: tuple(chance.choice((0, 1, chance.randrange(size))) for _ in range(task.inputs(line[0])))
        for line in task.net().lines()}
