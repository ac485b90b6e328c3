"""Runs: rows followed turn by turn over the lines of a net."""

from mingleway.errors import BadNumber, BadRow, NothingLeft, Told
from mingleway.fields import COMMON_SIZE, Field, check_row, check_size, unit_row
from mingleway.stands import Stand
from mingleway.sums import Guard, check_some_words
from mingleway.tasks import MOST_LETTERS

LAST_TURN = 60
SLOWED_MOST = 5
# How what is sent comes: 0 for the first time or 1 again, and so many turns later than its line is slow.
ON_TIME = ((0, 0),)
TWICE = ((0, 0), (1, 1))


def dealt(seed, turn, line, place, *, size=COMMON_SIZE):
    """The share by which the row at this place is mixed into what the line takes at this turn."""
    check_size(size)
    number = (seed * 48271 + turn * 7919 + line * 104729 + place * 1299709 + 11) % 2147483647
    return number * number % 2147483647 // 64 % size


def check_run_words(field, words):
    check_some_words(field, words)
    if len(words) > MOST_LETTERS:
        raise BadRow("a run has four words at most")


class Run:
    """A net, a source, its letters' words, and how all stands at the coming turn."""

    def __init__(self, net, source, words, *, size=COMMON_SIZE, seed=0):
        net.check_house(source)
        field = Field(size)
        check_run_words(field, words)
        if seed < 0:
            raise BadNumber("a seed is a number from 0 on")
        self.own_net = net.twin()
        self.own_source = source
        self.own_words = [tuple(word) for word in words]
        self.own_field = field
        self.own_seed = seed
        letters = len(words)
        first_rows = [unit_row(letters, at) + word for at, word in enumerate(self.own_words)]
        self.own_width = len(first_rows[0])
        kept = {house: first_rows if house == source else [] for house in net.houses()}
        # How all stood ahead of each turn that was gone, how it stands, and how it stood when turns were taken back.
        self.past = []
        self.now = Stand(field, letters, kept)
        self.future = []
        # What was told for the coming turn: by lines a row that is added, or None, and the comings; by houses guards.
        self.tellings = {}
        self.new_guards = {}

    def turn(self):
        return len(self.past)

    def go(self, many=1):
        if many < 0 or self.turn() + many > LAST_TURN:
            raise BadNumber("no turn behind the sixtieth is gone, and none is gone backwards")
        for step in range(many):
            behind = self.stand_behind()
            self.past.append(self.now)
            self.now = behind
            self.future = []
            self.drop_tellings()

    def stand_behind(self):
        """How all stands when the coming turn is gone."""
        stand = self.now.twin()
        stand.own_guards.update(self.new_guards)
        due = stand.take_due(self.turn())
        for number, row in due:
            stand.come(self.turn(), self.own_net.ends(number)[1], number, row)
        for number, one, other, slow in self.own_net.lines():
            if len(stand.kept[one]) > 0:
                self.send(stand, number, one, slow)
        return stand

    def send(self, stand, number, house, slow):
        turn = self.turn()
        added, comings = self.tellings.get(number, (None, ON_TIME))
        row = stand.mix_at(house, self.shares_for(number, len(stand.kept[house])), self.own_width)
        if added is not None:
            row = self.own_field.mixed_in(row, 1, added)
        stand.all_sent.append((turn, number, row))
        for comes_again, later in comings:
            stand.under_way.append((turn + slow + later, number, comes_again, turn, row))

    def shares_for(self, number, many):
        size = self.own_field.size()
        return [dealt(self.own_seed, self.turn(), number, place, size=size) for place in range(many)]

    def drop_tellings(self):
        self.tellings = {}
        self.new_guards = {}

    def tell(self, line, added, comings):
        if line in self.tellings:
            raise Told("something was told already for this line and turn")
        self.tellings[line] = (added, comings)
        self.future = []

    def lose(self, line):
        self.own_net.check_line(line)
        self.tell(line, None, ())

    def spoil(self, line, row):
        self.own_net.check_line(line)
        check_row(self.own_field, row, self.own_width)
        self.tell(line, tuple(row), ON_TIME)

    def slow(self, line, *, by=1):
        self.own_net.check_line(line)
        if not 1 <= by <= SLOWED_MOST:
            raise BadNumber("a row is slowed by 1 to 5 turns")
        self.tell(line, None, ((0, by),))

    def double(self, line):
        self.own_net.check_line(line)
        self.tell(line, None, TWICE)

    def guard(self, house, keys):
        self.own_net.check_house(house)
        self.new_guards[house] = Guard(self.own_field, self.own_words, keys)
        self.future = []

    def rank(self, house):
        return len(self.rows(house))

    def rows(self, house):
        self.own_net.check_house(house)
        return list(self.now.kept[house])

    def knows(self, house):
        self.own_net.check_house(house)
        return self.now.known_words(house)

    def clashes(self):
        return list(self.now.all_clashes)

    def caught(self):
        return list(self.now.all_caught)

    def sent(self):
        return list(self.now.all_sent)

    def back(self):
        if len(self.past) == 0:
            raise NothingLeft("no turn was gone")
        self.future.append(self.now)
        self.now = self.past.pop()
        self.drop_tellings()

    def again(self):
        if len(self.future) == 0:
            raise NothingLeft("there is no turn to do again")
        self.past.append(self.now)
        self.now = self.future.pop()

    def twin(self):
        size = self.own_field.size()
        alike = Run(self.own_net, self.own_source, self.own_words, size=size, seed=self.own_seed)
        alike.past = list(self.past)
        alike.now = self.now
        alike.future = list(self.future)
        alike.tellings = dict(self.tellings)
        alike.new_guards = dict(self.new_guards)
        return alike

    def __len__(self):
        return len(self.past)
