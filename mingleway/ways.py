"""Ways through a net that share no line, and the cuts that show why there are no more of them."""

from mingleway.errors import BadHearers, BadNumber


def check_lost(net, lost):
    for number in lost:
        net.check_line(number)


def check_asked(net, source, hearer, lost):
    net.check_house(source)
    net.check_house(hearer)
    if source == hearer:
        raise BadHearers("the source is no hearer of its own letters")
    check_lost(net, lost)


def check_many(many):
    if many < 1:
        raise BadNumber("one way at least is asked for")


def steps_left(net, lost, used):
    """Steps (house, next house, line): on over a line that is free, back over a used one, which frees it again."""
    steps = []
    for number, one, other, slow in net.lines():
        if number in used:
            steps.append((other, one, number))
        elif number not in lost:
            steps.append((one, other, number))
    return steps


def reached(source, steps):
    """By each house that the steps lead to, the last step of a shortest way there; by the source None."""
    found = {source: None}
    queue = [source]
    at = 0
    while at < len(queue):
        for step in steps:
            if step[0] == queue[at] and step[1] not in found:
                found[step[1]] = step
                queue.append(step[1])
        at += 1
    return found


def way_to(hearer, found):
    """The lines of the steps from the source to the hearer."""
    way = []
    step = found[hearer]
    while step is not None:
        way.append(step[2])
        step = found[step[0]]
    return way[::-1]


def led(net, source, hearer, many, lost):
    """All lines of so many ways, or of as many as there are."""
    used = []
    for again in range(many):
        found = reached(source, steps_left(net, lost, used))
        if hearer not in found:
            break
        way = way_to(hearer, found)
        freed = [number for number in way if number in used]
        used = [number for number in used + way if number not in freed]
    return used


def parted(net, source, hearer, used):
    """The ways that the used lines are made of."""
    steps = [(one, other, number) for number, one, other, slow in net.lines() if number in used]
    told = []
    found = reached(source, steps)
    while hearer in found:
        way = way_to(hearer, found)
        told.append(way)
        steps = [step for step in steps if step[2] not in way]
        found = reached(source, steps)
    return told


def wide(net, source, hearer, *, lost=()):
    """The most ways that there are."""
    check_asked(net, source, hearer, lost)
    # There are never more ways than lines.
    return len(parted(net, source, hearer, led(net, source, hearer, len(net), lost)))


def ways(net, source, hearer, many, *, lost=()):
    """So many ways, or None."""
    check_asked(net, source, hearer, lost)
    check_many(many)
    told = parted(net, source, hearer, led(net, source, hearer, many, lost))
    return told if len(told) == many else None


def cut(net, source, hearer, many, *, lost=()):
    """A cut that is less broad, or None where there are so many ways."""
    check_asked(net, source, hearer, lost)
    check_many(many)
    used = led(net, source, hearer, many, lost)
    if len(parted(net, source, hearer, used)) == many:
        return None
    # The hearer is not among these, and each line that leads out of them is used by a way of its own.
    return sorted(reached(source, steps_left(net, lost, used)))


def breadth(net, houses, *, lost=()):
    """How many lines that are not lost lead out of these houses."""
    for house in houses:
        net.check_house(house)
    check_lost(net, lost)
    free = [(one, other) for number, one, other, slow in net.lines() if number not in lost]
    return len([one for one, other in free if one in houses and other not in houses])
