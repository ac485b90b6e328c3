"""Tasks: what a net shall bring to which hearers, also where told lines are lost."""

from mingleway.errors import BadHearers, BadLoss, BadNumber
from mingleway.fields import COMMON_SIZE, Field
from mingleway.ways import check_lost, cut

MOST_HEARERS = 4
MOST_LETTERS = 4
MOST_LOSSES = 3


def check_hearers(source, hearers):
    if not 1 <= len(hearers) <= MOST_HEARERS:
        raise BadHearers("a task has one to four hearers")
    if len(set(hearers)) < len(hearers):
        raise BadHearers("a hearer is told twice")
    if source in hearers:
        raise BadHearers("the source is no hearer")


def check_letters(letters):
    if not 1 <= letters <= MOST_LETTERS:
        raise BadNumber("a task has one to four letters")


def rises(loss):
    return all([one < other for one, other in zip(loss, loss[1:])])


def check_losses(losses):
    if len(losses) > MOST_LOSSES:
        raise BadLoss("a task has three losses at most")
    if () in losses or len(set(losses)) < len(losses):
        raise BadLoss("a loss is empty or told twice")
    if not all([rises(loss) for loss in losses]):
        raise BadLoss("the lines of a loss rise")


class Task:
    """A net without rings, a source, its letters, the hearers, and the losses that must not hinder them."""

    def __init__(self, net, source, hearers, *, letters=2, losses=(), size=COMMON_SIZE):
        net.order()
        net.check_house(source)
        check_hearers(source, hearers)
        for hearer in hearers:
            net.check_house(hearer)
        check_letters(letters)
        told = [tuple(loss) for loss in losses]
        check_losses(told)
        for loss in told:
            check_lost(net, loss)
        self.own_field = Field(size)
        self.own_net = net.twin()
        self.own_source = source
        self.own_hearers = list(hearers)
        self.own_letters = letters
        self.own_losses = told

    def net(self):
        return self.own_net.twin()

    def source(self):
        return self.own_source

    def letters(self):
        return self.own_letters

    def field(self):
        # Nothing can change a field, so it needs no copy.
        return self.own_field

    def hearers(self):
        return list(self.own_hearers)

    def losses(self):
        return list(self.own_losses)

    def cases(self):
        return [(hearer, loss) for hearer in self.own_hearers for loss in [()] + self.own_losses]

    def inputs(self, number):
        house = self.own_net.ends(number)[0]
        return self.own_letters if house == self.own_source else len(self.own_net.into(house))

    def sized(self, size):
        return Task(self.own_net, self.own_source, self.own_hearers, letters=self.own_letters,
                    losses=self.own_losses, size=size)

    def short(self):
        for hearer, loss in self.cases():
            within = cut(self.own_net, self.own_source, hearer, self.own_letters, lost=loss)
            if within is not None:
                return hearer, loss, within
        return None

    def __eq__(self, other):
        if not isinstance(other, Task):
            return False
        if self.own_net != other.own_net or self.own_source != other.own_source:
            return False
        if self.own_letters != other.own_letters or self.own_field != other.own_field:
            return False
        return self.own_hearers == other.own_hearers and self.own_losses == other.own_losses
