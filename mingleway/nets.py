"""Nets: houses, and one-way lines between them."""

from mingleway.errors import BadLine, BadName, BadNumber, Full, InUse, NoHouse, NoLine, Ringed, Taken

SMALL_LETTERS = "abcdefghijklmnopqrstuvwxyz"
LONGEST_NAME = 6
MOST_HOUSES = 12
MOST_LINES = 30
GREATEST_NUMBER = 99
SLOWEST = 4


def check_name(name):
    if not 1 <= len(name) <= LONGEST_NAME or not all([sign in SMALL_LETTERS for sign in name]):
        raise BadName("a house has a name of one to six small letters")


class Net:
    """Houses by their names, and lines by their numbers."""

    def __init__(self):
        # The names, rising.
        self.own_houses = []
        # Of each line, by its number, the house where it begins, the one where it ends, and how slow it is.
        self.own_lines = {}

    def house(self, name):
        check_name(name)
        if name in self.own_houses:
            raise Taken("there is a house of this name")
        if len(self.own_houses) == MOST_HOUSES:
            raise Full("the net has no room for another house")
        self.own_houses = sorted(self.own_houses + [name])

    def line(self, one, other, *, slow=1, number=None):
        self.check_house(one)
        self.check_house(other)
        if one == other:
            raise BadLine("a line leads from one house to another one")
        if not 1 <= slow <= SLOWEST:
            raise BadNumber("a line is slow by 1 to 4 turns")
        if number is None:
            number = max([0] + list(self.own_lines)) + 1
        if not 1 <= number <= GREATEST_NUMBER:
            raise BadNumber("a line has a number from 1 to 99")
        if number in self.own_lines:
            raise Taken("there is a line of this number")
        if len(self.own_lines) == MOST_LINES:
            raise Full("the net has no room for another line")
        self.own_lines[number] = (one, other, slow)
        return number

    def drop(self, name):
        numbers = sorted(self.into(name) + self.out_of(name))
        if len(numbers) > 0:
            raise InUse(numbers[0])
        self.own_houses = [house for house in self.own_houses if house != name]

    def cut(self, number):
        self.check_line(number)
        del self.own_lines[number]

    def check_house(self, name):
        if name not in self.own_houses:
            raise NoHouse(name)

    def check_line(self, number):
        if number not in self.own_lines:
            raise NoLine(number)

    def houses(self):
        return list(self.own_houses)

    def numbers(self):
        return sorted(self.own_lines)

    def lines(self):
        return [(number,) + self.own_lines[number] for number in self.numbers()]

    def into(self, name):
        self.check_house(name)
        return [number for number, one, other, slow in self.lines() if other == name]

    def out_of(self, name):
        self.check_house(name)
        return [number for number, one, other, slow in self.lines() if one == name]

    def ends(self, number):
        self.check_line(number)
        return self.own_lines[number]

    def order(self):
        told = self.order_till_a_ring()
        if len(told) < len(self.own_houses):
            raise Ringed(self.ring_beyond(told))
        return told

    def ring(self):
        told = self.order_till_a_ring()
        if len(told) == len(self.own_houses):
            return None
        return self.ring_beyond(told)

    def order_till_a_ring(self):
        """The order as far as it goes: a ring holds up its own houses and all that lines lead to from there."""
        told = []
        ready = self.ready_behind(told)
        while len(ready) > 0:
            told.append(ready[0])
            ready = self.ready_behind(told)
        return told

    def ready_behind(self, told):
        """The houses not told yet into which lines come from told ones alone, by names."""
        held_up = [other for one, other, slow in self.own_lines.values() if one not in told]
        return [house for house in self.own_houses if house not in told and house not in held_up]

    def ring_beyond(self, told):
        """A ring among the houses that an order could not tell.

        Into each of them a line leads from another of them, so a walk back by such lines meets a house again.
        """
        met = [[house for house in self.own_houses if house not in told][0]]
        walked = []
        while met.count(met[-1]) == 1:
            number = [number for number in self.into(met[-1]) if self.own_lines[number][0] not in told][0]
            walked.append(number)
            met.append(self.own_lines[number][0])
        # What was walked ahead of the first time there only led to the ring.
        return walked[met.index(met[-1]):][::-1]

    def twin(self):
        alike = Net()
        alike.own_houses = list(self.own_houses)
        alike.own_lines = dict(self.own_lines)
        return alike

    def __eq__(self, other):
        if not isinstance(other, Net):
            return False
        return self.own_houses == other.own_houses and self.own_lines == other.own_lines

    def __len__(self):
        return len(self.own_lines)
