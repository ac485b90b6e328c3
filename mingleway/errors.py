"""The refusals of this program, one class for each kind.

Messages are plain sentences without the refused numbers: a number may be too long to be written out.
"""


class MingleError(ValueError):
    """What was handed in is not as it must be."""


class BadSize(MingleError):
    """No field has this size."""


class BadNumber(MingleError):
    """A number is out of its bounds."""


class BadRow(MingleError):
    """A row is of another width, or has a number that is none of the field."""


class BadName(MingleError):
    """No house can have this name."""


class BadLine(MingleError):
    """A line would begin and end at one house."""


class BadHearers(MingleError):
    """These hearers cannot be those of a task."""


class BadLoss(MingleError):
    """These losses cannot be those of a task."""


class BadPlan(MingleError):
    """These mixers are no plan of the task."""


class BadDeed(MingleError):
    """This tuple is no deed."""


class BadText(MingleError):
    """A text is not written as it must be; `row` is the first row at fault."""

    def __init__(self, row=0):
        super().__init__("a row of the text is not written as it must be")
        self.row = row


class Ringed(MingleError):
    """The net has a ring; `around` lists its lines."""

    def __init__(self, around):
        super().__init__("the net has a ring")
        self.around = list(around)


class Short(MingleError):
    """The houses `within` are a cut that is too narrow for this hearer under this loss."""

    def __init__(self, hearer, loss, within):
        super().__init__("a hearer can not have all letters")
        self.hearer = hearer
        self.loss = loss
        self.within = list(within)


class Narrow(MingleError):
    """The field has fewer numbers than there are cases."""


class Heavy(MingleError):
    """There are more `tries` than are let."""

    def __init__(self, tries):
        super().__init__("there are more tries than are let")
        self.tries = tries


class Unsolved(MingleError):
    """The words can not be told from what came."""


class Missing(LookupError):
    """What was named is not there."""


class NoHouse(Missing):
    """There is no house of this `name`."""

    def __init__(self, name):
        super().__init__("there is no such house")
        self.name = name


class NoLine(Missing):
    """There is no line of this `number`."""

    def __init__(self, number):
        super().__init__("there is no such line")
        self.number = number


class Busy(RuntimeError):
    """What was asked for can not be done as things stand."""


class Taken(Busy):
    """It is there already."""


class Full(Busy):
    """There are as many as there may be."""


class InUse(Busy):
    """It is still needed by the line of this `number`."""

    def __init__(self, number):
        super().__init__("it is still needed")
        self.number = number


class Told(Busy):
    """Something was told already for this line and turn."""


class NothingLeft(Busy):
    """There is nothing to take back or to do again."""


class NoShare(ZeroDivisionError):
    """Nothing is divided by 0."""
