"""Drafts: the things of a task under edit, and the plan that stands."""

from mingleway.errors import BadHearers, NoHouse, Ringed
from mingleway.fields import COMMON_SIZE
from mingleway.nets import Net
from mingleway.plans import Plan
from mingleway.tasks import Task


class Draft:
    """What a deed can turn. A board keeps the one it had and turns a twin, so none that is kept ever changes."""

    def __init__(self):
        self.own_net = Net()
        self.own_source = None
        self.own_hearers = []
        self.own_letters = 2
        self.own_losses = []
        self.own_size = COMMON_SIZE
        self.own_plan = None

    def twin(self):
        alike = Draft()
        alike.own_net = self.own_net.twin()
        alike.own_source = self.own_source
        alike.own_hearers = list(self.own_hearers)
        alike.own_letters = self.own_letters
        alike.own_losses = list(self.own_losses)
        alike.own_size = self.own_size
        # Nothing can change a plan, so it needs no copy.
        alike.own_plan = self.own_plan
        return alike

    def task(self):
        source = "" if self.own_source is None else self.own_source
        return Task(self.own_net, source, self.own_hearers, letters=self.own_letters, losses=self.own_losses,
                    size=self.own_size)

    def fit_plan(self):
        """Lets the plan, one of the task as it was, stand for the task as it is, or go."""
        if self.own_plan is not None:
            self.own_plan = self.still_good()

    def still_good(self):
        try:
            task = self.task()
        except (Ringed, NoHouse, BadHearers):
            return None
        plan = Plan(task, fitted_mixers(self.own_plan, task))
        return plan if plan.good() else None


def fitted_mixers(plan, task):
    """The mixers of a plan, fitted to a task with the same source."""
    net = task.net()
    return {number: fitted_row(plan, task, number, one) for number, one, other, slow in net.lines()}


def fitted_row(plan, task, number, house):
    had = plan.mixers().get(number, ())
    if house == task.source():
        more = (0,) * (task.letters() - len(had))
        return had[:task.letters()] + more
    # A line that came has no mixers yet, and so gets noughts alone.
    had_by_lines = dict(zip(plan.task().net().into(house), had))
    return tuple([had_by_lines.get(line, 0) for line in task.net().into(house)])
