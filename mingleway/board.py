"""The board: a task under edit, deed by deed."""

from mingleway.deeds import do_to
from mingleway.drafts import Draft
from mingleway.errors import NothingLeft
from mingleway.plans import made


class Board:
    """Deeds that stand, and those that were taken back."""

    def __init__(self):
        self.now = Draft()
        # Pairs of a deed and the draft ahead of it, or, of those taken back, the draft as it was taken back.
        self.done = []
        self.undone = []
        self.at_work = False

    def do(self, deed):
        behind = self.now.twin()
        do_to(behind, deed)
        if deed[0] in ("source", "size"):
            behind.own_plan = None
        behind.fit_plan()
        self.done.append((tuple(deed), self.now))
        self.now = behind
        self.undone = []

    def do_all(self, deeds):
        self.at_work = True
        try:
            trial = self.twin()
            for deed in deeds:
                trial.do(deed)
            self.done, self.now, self.undone = trial.done, trial.now, trial.undone
        finally:
            self.at_work = False

    def busy(self):
        return self.at_work

    def undo(self):
        if len(self.done) == 0:
            raise NothingLeft("there is no deed to take back")
        deed, ahead = self.done.pop()
        self.undone.append((deed, self.now))
        self.now = ahead
        return deed

    def redo(self):
        if len(self.undone) == 0:
            raise NothingLeft("there is no deed to do again")
        deed, behind = self.undone.pop()
        self.done.append((deed, self.now))
        self.now = behind
        return deed

    def deeds(self):
        return [deed for deed, ahead in self.done]

    def net(self):
        return self.now.own_net.twin()

    def source(self):
        return self.now.own_source

    def hearers(self):
        return list(self.now.own_hearers)

    def letters(self):
        return self.now.own_letters

    def losses(self):
        return list(self.now.own_losses)

    def size(self):
        return self.now.own_size

    def task(self):
        return self.now.task()

    def planned(self):
        return self.now.own_plan

    def plan(self):
        if self.now.own_plan is None:
            # The draft may stand elsewhere, too: behind a deed taken back, or in a twin.
            planned = self.now.twin()
            planned.own_plan = made(self.task())
            self.now = planned
        return self.now.own_plan

    def twin(self):
        alike = Board()
        alike.now = self.now
        alike.done = list(self.done)
        alike.undone = list(self.undone)
        return alike

    def __eq__(self, other):
        return isinstance(other, Board) and self.deeds() == other.deeds()

    def __len__(self):
        return len(self.done)
