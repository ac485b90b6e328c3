"""Texts of nets, plans and deeds, written and read."""

from mingleway.deeds import FORMS
from mingleway.errors import BadPlan, BadText, Busy, MingleError, Missing
from mingleway.nets import Net
from mingleway.plans import Plan

FIGURES = "0123456789"
MOST_FIGURES = 6


def read_number(word):
    if not 1 <= len(word) <= MOST_FIGURES or not all([sign in FIGURES for sign in word]):
        raise BadText()
    if len(word) > 1 and word[0] == "0":
        raise BadText()
    return int(word)


def read_rows(text, read_row):
    """Hands each row on to be read, and tells how many they are; BadText tells the first that is not read."""
    rows = text.split("\n")
    many = len(rows) - 1
    for at, row in enumerate(rows[:many]):
        try:
            read_row(row)
        except (MingleError, Missing, Busy):
            raise BadText(at) from None
    # A row of no signs here is what stands behind the last line feed.
    if rows[many] != "":
        raise BadText(many)
    return many


def net_text(net):
    houses = [f"house {name}\n" for name in net.houses()]
    lines = [f"line {number} {one} {other} {slow}\n" for number, one, other, slow in net.lines()]
    return "".join(houses + lines)


def read_net(text):
    net = Net()
    read_rows(text, lambda row: read_net_row(net, row))
    return net


def read_net_row(net, row):
    words = row.split(" ")
    if words[0] == "house" and len(words) == 2:
        read_house(net, words[1])
    elif words[0] == "line" and len(words) == 5:
        read_line(net, read_number(words[1]), words[2], words[3], read_number(words[4]))
    else:
        raise BadText()


def read_house(net, name):
    if len(net) > 0 or any([name <= house for house in net.houses()]):
        raise BadText()
    net.house(name)


def read_line(net, number, one, other, slow):
    if any([number <= lesser for lesser in net.numbers()]):
        raise BadText()
    net.line(one, other, slow=slow, number=number)


def plan_text(plan):
    mixers = plan.mixers()
    return "".join([plan_row(number, mixers[number]) + "\n" for number in sorted(mixers)])


def plan_row(number, row):
    return " ".join([f"{number}:"] + [str(mixer) for mixer in row])


def read_plan(task, text):
    mixers = {}
    many = read_rows(text, lambda row: read_plan_row(mixers, row))
    try:
        return Plan(task, mixers)
    except BadPlan:
        raise BadText(many) from None


def read_plan_row(mixers, row):
    words = row.split(" ")
    if not words[0].endswith(":"):
        raise BadText()
    number = read_number(words[0][:-1])
    # The noughth line is none, and the numbers rise.
    if number <= max([0] + list(mixers)):
        raise BadText()
    mixers[number] = tuple([read_number(word) for word in words[1:]])


def deed_text(deed):
    return " ".join([thing_text(thing) for thing in deed])


def thing_text(thing):
    if isinstance(thing, tuple):
        return "+".join([str(number) for number in thing])
    return str(thing)


def read_deed(text):
    words = text.split(" ")
    if words[0] not in FORMS or len(words) != 1 + len(FORMS[words[0]]):
        raise BadText()
    things = [read_thing(kind, word) for kind, word in zip(FORMS[words[0]], words[1:])]
    return (words[0],) + tuple(things)


def read_thing(kind, word):
    if kind == "number":
        return read_number(word)
    if kind == "loss":
        return tuple([read_number(part) for part in word.split("+")])
    if word == "" or "\n" in word:
        raise BadText()
    return word
