"""Fields of a few numbers, and mixes of rows of such numbers."""

from mingleway.errors import BadNumber, BadRow, BadSize, NoShare

SIZES = (2, 3, 4, 5, 7, 8, 9, 11, 13, 16)
COMMON_SIZE = 16

# Only the sizes that are no primes stand here; a prime is its own base.
BASES = {4: 2, 8: 2, 9: 3, 16: 2}
# The rule of such a size: the number that the lowest power of x beyond its figures is the same as.
BEYOND = {4: 3, 8: 3, 9: 2, 16: 3}


def check_size(size):
    if size not in SIZES:
        raise BadSize("no field has this size")


def sum_by_figures(base, one, other):
    total = 0
    weight = 1
    while one > 0 or other > 0:
        total += ((one + other) % base) * weight
        weight *= base
        one //= base
        other //= base
    return total


def times_x(size, sums, number):
    """x times the number, in a size that is no prime."""
    base = BASES[size]
    top = size // base
    total = (number % top) * base
    for again in range(number // top):
        total = sums[total][BEYOND[size]]
    return total


def product_row(size, base, sums, one):
    """The products of one number with each number of the field."""
    row = [0]
    for other in range(1, base):
        row.append(sums[row[-1]][one])
    # Any other number is x times a lesser one and a last figure, and both of these products are known by then.
    for other in range(base, size):
        higher = times_x(size, sums, row[other // base])
        row.append(sums[higher][row[other % base]])
    return row


class Field:
    """The numbers from 0 to size less one, with their own sums and products."""

    def __init__(self, size=COMMON_SIZE):
        check_size(size)
        base = BASES.get(size, size)
        numbers = list(range(size))
        self.prime = base
        self.sum_table = [[sum_by_figures(base, one, other) for other in numbers] for one in numbers]
        self.product_table = [product_row(size, base, self.sum_table, one) for one in numbers]
        self.opposites = [sums.index(0) for sums in self.sum_table]
        # 0 has no inverse; the nought at its place is never asked for.
        self.inverses = [0] + [products.index(1) for products in self.product_table[1:]]

    def size(self):
        return len(self.sum_table)

    def base(self):
        return self.prime

    def fits(self, number):
        """Whether it is a number of this field."""
        return 0 <= number < len(self.sum_table)

    def check_both(self, one, other):
        if not (self.fits(one) and self.fits(other)):
            raise BadNumber("this is no number of the field")

    def plus(self, one, other):
        self.check_both(one, other)
        return self.sum_table[one][other]

    def less(self, one, other):
        self.check_both(one, other)
        return self.sum_table[one][self.opposites[other]]

    def times(self, one, other):
        self.check_both(one, other)
        return self.product_table[one][other]

    def over(self, one, other):
        self.check_both(one, other)
        if other == 0:
            raise NoShare("nothing is divided by 0")
        return self.product_table[one][self.inverses[other]]

    def power(self, one, many):
        if not self.fits(one) or many < 0:
            raise BadNumber("this is no number of the field, or no power")
        if one == 0 and many > 0:
            return 0
        total = 1
        # Each number but 0 to the power of size less one is 1, so whole rounds of that length change nothing.
        for step in range(many % (self.size() - 1)):
            total = self.product_table[total][one]
        return total

    def mixed_in(self, total, share, row):
        """The row `total` and the share of the other row, place by place; nothing is checked here any more."""
        if share == 0:
            return total
        parts = self.product_table[share]
        sums = self.sum_table
        return tuple([sums[one][parts[other]] for one, other in zip(total, row)])

    def product_sum(self, one, other):
        """What two rows, multiplied place by place, sum up to; nothing is checked here any more."""
        total = 0
        for number, more in zip(one, other):
            total = self.sum_table[total][self.product_table[number][more]]
        return total

    def __eq__(self, other):
        return isinstance(other, Field) and self.size() == other.size()

    def __len__(self):
        return len(self.sum_table)

    def __repr__(self):
        return f"Field({self.size()})"

    def __str__(self):
        return f"field of {self.size()}"


def unit_row(width, place):
    """1 at this place and else noughts."""
    return tuple([1 if at == place else 0 for at in range(width)])


def is_row(field, row, width):
    return len(row) == width and all([field.fits(number) for number in row])


def check_row(field, row, width):
    if not is_row(field, row, width):
        raise BadRow("this is no row of the field, or one of another width")


def check_words(field, words):
    """Words are rows of one width, and not of none."""
    for word in words:
        check_row(field, word, len(words[0]))
        if len(word) == 0:
            raise BadRow("a word has one number at least")


def plain_mix(field, rows, shares, width):
    """The mix of the rows by the shares; nothing is checked here any more."""
    total = (0,) * width
    for row, share in zip(rows, shares):
        total = field.mixed_in(total, share, row)
    return total


def mixed(field, rows, shares, *, width):
    """The mix of the rows by the shares."""
    for row in rows:
        check_row(field, row, width)
    if len(shares) != len(rows):
        raise BadNumber("each row needs a share")
    if not all([field.fits(share) for share in shares]):
        raise BadNumber("a share is no number of the field")
    return plain_mix(field, rows, shares, width)
