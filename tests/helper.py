"""A slow second telling of fields, mixes and spans, straight from the document's words, to hold the program against."""

from itertools import product

SIZES = (2, 3, 4, 5, 7, 8, 9, 11, 13, 16)
FIGURES = {4: (2, 2), 8: (2, 3), 9: (3, 2), 16: (2, 4)}
# For each size the figures, lowest first, of what the first power of x beyond the figures is.
RULES = {4: (1, 1), 8: (1, 1, 0), 9: (2, 0), 16: (1, 1, 0, 0)}
LONG = 10 ** 29 + 7
# More figures than Python writes out.
VERY_LONG = 10 ** 5000 + 1


def base_of(size):
    return FIGURES.get(size, (size, 1))[0]


def figures(size, number):
    base, many = FIGURES.get(size, (size, 1))
    return [number // base ** at % base for at in range(many)]


def number_of(size, parts):
    return sum(part * base_of(size) ** at for at, part in enumerate(parts))


def plus(size, one, other):
    pairs = zip(figures(size, one), figures(size, other))
    return number_of(size, [(a + b) % base_of(size) for a, b in pairs])


def times(size, one, other):
    if size not in FIGURES:
        return one * other % size
    base, many = FIGURES[size]
    parts = [0] * (2 * many - 1)
    for at, a in enumerate(figures(size, one)):
        for to, b in enumerate(figures(size, other)):
            parts[at + to] = (parts[at + to] + a * b) % base
    while len(parts) > many:
        top = parts.pop()
        for at, part in enumerate(RULES[size]):
            place = len(parts) - many + at
            parts[place] = (parts[place] + top * part) % base
    return number_of(size, parts)


def mix(size, width, rows, shares):
    total = [0] * width
    for row, share in zip(rows, shares):
        total = [plus(size, had, times(size, share, more)) for had, more in zip(total, row)]
    return tuple(total)


def all_rows(size, width):
    return list(product(range(size), repeat=width))


def all_mixes(size, width, rows):
    return {mix(size, width, rows, shares) for shares in product(range(size), repeat=len(rows))}


def lead(row):
    """The place of the first number that is not 0, or None."""
    return next((at for at, number in enumerate(row) if number != 0), None)


def is_reduced(rows):
    leads = [lead(row) for row in rows]
    if None in leads or leads != sorted(set(leads)):
        return False
    return all(row[at] == (1 if at == lead(row) else 0) for row in rows for at in leads)
