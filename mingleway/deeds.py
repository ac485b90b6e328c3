"""Deeds: what can be done to a draft, each a tuple of its first text and its things."""

from mingleway.errors import BadDeed, BadLoss, Full, InUse, NoHouse, Taken
from mingleway.fields import check_size
from mingleway.tasks import MOST_HEARERS, check_letters, check_losses
from mingleway.ways import check_lost

# By each first text the kinds of things behind it.
FORMS = {
    "house": ("name",), "drop": ("name",), "line": ("name", "name", "number"), "cut": ("number",), "source": ("name",),
    "hear": ("name",), "deafen": ("name",), "letters": ("number",), "lose": ("loss",), "spare": ("loss",),
    "size": ("number",)}


def add_house(draft, name):
    draft.own_net.house(name)


def drop_house(draft, name):
    draft.own_net.drop(name)
    if name == draft.own_source or name in draft.own_hearers:
        raise InUse(0)


def add_line(draft, one, other, slow):
    draft.own_net.line(one, other, slow=slow)


def cut_line(draft, number):
    if any([number in loss for loss in draft.own_losses]):
        raise InUse(number)
    draft.own_net.cut(number)


def set_source(draft, name):
    draft.own_net.check_house(name)
    draft.own_source = name


def add_hearer(draft, name):
    draft.own_net.check_house(name)
    if name in draft.own_hearers:
        raise Taken("this house is a hearer already")
    if len(draft.own_hearers) == MOST_HEARERS:
        raise Full("there are as many hearers as there may be")
    draft.own_hearers.append(name)


def drop_hearer(draft, name):
    if name not in draft.own_hearers:
        raise NoHouse(name)
    draft.own_hearers.remove(name)


def set_letters(draft, many):
    check_letters(many)
    draft.own_letters = many


def add_loss(draft, lines):
    check_losses(draft.own_losses + [lines])
    check_lost(draft.own_net, lines)
    draft.own_losses.append(lines)


def drop_loss(draft, lines):
    if lines not in draft.own_losses:
        raise BadLoss("there is no such loss")
    draft.own_losses.remove(lines)


def set_size(draft, size):
    check_size(size)
    draft.own_size = size


ACTIONS = {
    "house": add_house, "drop": drop_house, "line": add_line, "cut": cut_line, "source": set_source, "hear": add_hearer,
    "deafen": drop_hearer, "letters": set_letters, "lose": add_loss, "spare": drop_loss, "size": set_size}


def check_deed(deed):
    if len(deed) == 0 or not isinstance(deed[0], str) or deed[0] not in FORMS:
        raise BadDeed("no deed begins so")
    if len(deed) != 1 + len(FORMS[deed[0]]):
        raise BadDeed("this deed has another count of things")


def do_to(draft, deed):
    """Does a deed; behind a refusal the draft is of no use any more."""
    check_deed(deed)
    action = ACTIONS[deed[0]]
    things = deed[1:]
    action(draft, *things)
