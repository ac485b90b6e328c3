"""Plans: mixers for each line, and what they bring to the hearers."""

from mingleway.errors import BadPlan, BadRow, Narrow, Short, Unsolved
from mingleway.fields import check_words, is_row, plain_mix, unit_row
from mingleway.heads import feeds_of, heads_under
from mingleway.making import good_mixers
from mingleway.spans import Span
from mingleway.ways import check_lost


def check_mixers(task, mixers):
    numbers = task.net().numbers()
    if sorted(mixers) != numbers:
        raise BadPlan("each line has mixers, and nothing else has")
    for number in numbers:
        if not is_row(task.field(), mixers[number], task.inputs(number)):
            raise BadPlan("the mixers of a line are too few, too many or no numbers of the field")


def words_from(field, letters, heads, rows):
    """The words of which these rows are mixes by these heads."""
    span = Span(field, letters)
    kept = []
    for head, row in zip(heads, rows):
        if span.put(head):
            kept.append(row)
    if len(span) < letters:
        raise Unsolved("not all words can be told from these lines")
    width = len(kept[0])
    units = [unit_row(letters, place) for place in range(letters)]
    words = [plain_mix(field, kept, span.shares(unit), width) for unit in units]
    if [plain_mix(field, words, head, width) for head in heads] != rows:
        raise Unsolved("these rows can not have come together")
    return words


class Plan:
    """Mixers by lines, for a task."""

    def __init__(self, task, mixers):
        check_mixers(task, mixers)
        # Nothing can change a task, so it needs no copy.
        self.own_task = task
        self.own_net = task.net()
        self.own_feeds = feeds_of(task)
        self.own_mixers = {number: tuple(mixers[number]) for number in sorted(mixers)}

    def task(self):
        return self.own_task

    def mixers(self):
        return dict(self.own_mixers)

    def heads(self, loss=()):
        check_lost(self.own_net, loss)
        numbers = list(self.own_mixers)
        return dict(zip(numbers, self.all_heads(loss).rows_of(numbers)))

    def all_heads(self, loss):
        return heads_under(self.own_task, self.own_feeds, self.own_mixers, loss)

    def served(self, hearer, loss=()):
        self.own_net.check_house(hearer)
        check_lost(self.own_net, loss)
        return self.all_heads(loss).serve(self.own_net.into(hearer))

    def good(self):
        return len(self.bad_cases()) == 0

    def bad_cases(self):
        heads = {loss: self.all_heads(loss) for loss in [()] + self.own_task.losses()}
        numbers = {hearer: self.own_net.into(hearer) for hearer in self.own_task.hearers()}
        return [(hearer, loss) for hearer, loss in self.own_task.cases() if not heads[loss].serve(numbers[hearer])]

    def carried(self, words, *, loss=()):
        field = self.own_task.field()
        if len(words) != self.own_task.letters():
            raise BadRow("each letter has a word")
        check_words(field, words)
        heads = self.heads(loss)
        return {number: plain_mix(field, words, heads[number], len(words[0])) for number in heads}

    def solved(self, hearer, came, *, loss=()):
        numbers = self.own_net.into(hearer)
        check_lost(self.own_net, loss)
        if sorted(came) != numbers:
            raise BadRow("a row comes by each line into the house, and by no other one")
        rows = [tuple(came[number]) for number in numbers]
        check_words(self.own_task.field(), rows)
        heads = self.all_heads(loss).rows_of(numbers)
        return words_from(self.own_task.field(), self.own_task.letters(), heads, rows)

    def __eq__(self, other):
        if not isinstance(other, Plan):
            return False
        return self.own_task == other.own_task and self.own_mixers == other.own_mixers


def check_short(task):
    lack = task.short()
    if lack is not None:
        hearer, loss, within = lack
        raise Short(hearer, loss, within)


def made(task):
    """A plan that serves all cases."""
    check_short(task)
    if task.field().size() < len(task.cases()):
        raise Narrow("the field has fewer numbers than there are cases")
    return Plan(task, good_mixers(task))
