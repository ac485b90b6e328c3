"""Plans gone through one by one, and the least field that has a good one."""

from mingleway.errors import BadNumber, Heavy
from mingleway.fields import SIZES, unit_row
from mingleway.heads import feeds_of, heads_under
from mingleway.plans import Plan, check_short

MOST_TRIES = 4096


def inputs_by_lines(task):
    """How many mixers each line has, by numbers, rising."""
    return {number: task.inputs(number) for number in task.net().numbers()}


def tries(task):
    """How many plans the task has."""
    total = 1
    for mixer in range(sum(inputs_by_lines(task).values())):
        total *= task.field().size()
    return total


def copying_tries(task):
    """How many copying plans the task has."""
    total = 1
    for many in inputs_by_lines(task).values():
        total *= many + 1
    return total


def check_most(most):
    if not 1 <= most <= MOST_TRIES:
        raise BadNumber("at least one try is let, and not more than MOST_TRIES")


def check_tries(many, most):
    check_most(most)
    if many > most:
        raise Heavy(many)


def all_rows(size, many):
    """All rows of so many numbers, in their order."""
    rows = [()]
    for place in range(many):
        rows = [row + (number,) for row in rows for number in range(size)]
    return rows


def copying_rows(many):
    """The rows of so many noughts, or of one 1 and else noughts, in their order."""
    return [(0,) * many] + [unit_row(many, place) for place in reversed(range(many))]


def all_picks(choices):
    """All rows that have one of the choices for each place, in the order of these."""
    picks = [()]
    for some in choices:
        picks = [pick + (choice,) for pick in picks for choice in some]
    return picks


def serves_all(task, feeds, hearer_lines, mixers):
    for loss in [()] + task.losses():
        heads = heads_under(task, feeds, mixers, loss)
        if not all([heads.serve(numbers) for numbers in hearer_lines]):
            return False
    return True


def first_good(task, choices):
    """The first good plan whose mixers are among the choices, which stand by lines; or None."""
    if task.short() is not None:
        return None
    feeds = feeds_of(task)
    hearer_lines = [task.net().into(hearer) for hearer in task.hearers()]
    for pick in all_picks(list(choices.values())):
        mixers = dict(zip(list(choices), pick))
        if serves_all(task, feeds, hearer_lines, mixers):
            return Plan(task, mixers)
    return None


def first_plan(task, *, most=MOST_TRIES):
    """The first good plan, or None."""
    check_tries(tries(task), most)
    inputs = inputs_by_lines(task)
    return first_good(task, {number: all_rows(task.field().size(), inputs[number]) for number in inputs})


def first_copying(task, *, most=MOST_TRIES):
    """The first good copying plan, or None."""
    check_tries(copying_tries(task), most)
    inputs = inputs_by_lines(task)
    return first_good(task, {number: copying_rows(inputs[number]) for number in inputs})


def least_size(task, *, most=MOST_TRIES):
    """The least size in which there is a good plan."""
    check_short(task)
    check_most(most)
    # There never are more than 16 cases, so some size has as many numbers.
    lesser = [size for size in SIZES if size < len(task.cases())]
    for size in lesser:
        if first_plan(task.sized(size), most=most) is not None:
            return size
    return SIZES[len(lesser)]
