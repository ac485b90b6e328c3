"""Mixers that serve every case of a task.

Each case has its ways, and on each way rows have come as far as a certain line, its front: a letter at first. All
fronts of a case are kept independent while the lines are gone through in order, so they still are when the fronts
have come to the hearer.
"""

from mingleway.fields import unit_row
from mingleway.heads import Heads, feeds_of, letter_keys
from mingleway.spans import null_rows
from mingleway.ways import ways


class Course:
    """A case under way."""

    def __init__(self, task, hearer, heads):
        found = ways(task.net(), task.source(), hearer, task.letters(), lost=heads.lost)
        self.case_heads = heads
        self.fronts = letter_keys(task.letters())
        self.way_by_line = {number: at for at, way in enumerate(found) for number in way}

    def goes_over(self, number):
        return number in self.way_by_line

    def test_of(self, field, number, feeds):
        """A row that must not sum up to 0 with the line's mixers.

        Just then the line's head is no mix of the fronts of the other ways.
        """
        others = [front for at, front in enumerate(self.fronts) if at != self.way_by_line[number]]
        nulls = null_rows(field, len(self.fronts), self.case_heads.rows_of(others))
        return tuple([field.product_sum(nulls[0], row) for row in self.case_heads.rows_of(feeds)])

    def move_to(self, number):
        self.fronts[self.way_by_line[number]] = number


def passes_all(field, mixers, tests):
    return all([field.product_sum(mixers, test) != 0 for test in tests])


def bent(field, mixers, tests):
    """Mixers that pass all the tests, from such that pass all but the last one."""
    place = [at for at, number in enumerate(tests[-1]) if number != 0][0]
    start = unit_row(len(mixers), place)
    # With any share the last test is passed, and each other one fails by one share alone. So one share at least is
    # left where the tests are no more than the numbers of the field.
    tried = [field.mixed_in(start, share, mixers) for share in range(field.size())]
    return [row for row in tried if passes_all(field, row, tests)][0]


def mixers_for(field, many, tests):
    """So many numbers that with no test sum up to 0."""
    mixers = (0,) * many
    for at, test in enumerate(tests):
        if field.product_sum(mixers, test) == 0:
            mixers = bent(field, mixers, tests[:at + 1])
    return mixers


def good_mixers(task):
    """Mixers by lines, for a task of which each case has its ways, and that has no more cases than numbers."""
    field = task.field()
    all_heads = [Heads(field, task.letters(), loss) for loss in [()] + task.losses()]
    courses = [Course(task, hearer, heads) for hearer in task.hearers() for heads in all_heads]
    mixers = {}
    for number, feeds in feeds_of(task).items():
        over = [course for course in courses if course.goes_over(number)]
        tests = [course.test_of(field, number, feeds) for course in over]
        mixers[number] = mixers_for(field, len(feeds), tests)
        for heads in all_heads:
            heads.lead(number, feeds, mixers[number])
        for course in over:
            course.move_to(number)
    return mixers
