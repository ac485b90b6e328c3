"""Ways through a net that share no line, and the cuts that show why there are no more of them."""

from mingleway.errors import BadHearers, BadNumber
from mingleway.flows import led, parted, reached, steps_left


def check_lost(net, lost):
    for number in lost:
        net.check_line(number)


def check_ends(net, source, hearer):
    net.check_house(source)
    net.check_house(hearer)
    if source == hearer:
        raise BadHearers("the source is no hearer of its own letters")


def check_asked(net, source, hearer, lost):
    check_ends(net, source, hearer)
    check_lost(net, lost)


def check_many(many):
    if many < 1:
        raise BadNumber("one way at least is asked for")


def free_lines(net, lost):
    """The lines that are not lost, as arcs."""
    return [(one, other, number) for number, one, other, slow in net.lines() if number not in lost]


def wide(net, source, hearer, *, lost=()):
    """The most ways that there are."""
    check_asked(net, source, hearer, lost)
    arcs = free_lines(net, lost)
    # There are never more ways than lines.
    return len(parted(arcs, source, hearer, led(arcs, source, hearer, len(arcs))))


def ways(net, source, hearer, many, *, lost=()):
    """So many ways, or None."""
    check_asked(net, source, hearer, lost)
    check_many(many)
    arcs = free_lines(net, lost)
    told = parted(arcs, source, hearer, led(arcs, source, hearer, many))
    return told if len(told) == many else None


def cut(net, source, hearer, many, *, lost=()):
    """A cut that is less broad, or None where there are so many ways."""
    check_asked(net, source, hearer, lost)
    check_many(many)
    arcs = free_lines(net, lost)
    used = led(arcs, source, hearer, many)
    if len(parted(arcs, source, hearer, used)) == many:
        return None
    # The hearer is not among these, and each line that leads out of them is used by a way of its own.
    return sorted(reached(source, steps_left(arcs, used)))


def breadth(net, houses, *, lost=()):
    """How many lines that are not lost lead out of these houses."""
    for house in houses:
        net.check_house(house)
    check_lost(net, lost)
    return len([one for one, other, number in free_lines(net, lost) if one in houses and other not in houses])
