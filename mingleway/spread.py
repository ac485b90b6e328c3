"""What a house can know at the most by a turn, and the bars that show why it is no more."""

from mingleway.errors import BadNumber
from mingleway.flows import led, parted, reached, steps_left
from mingleway.tasks import check_letters
from mingleway.ways import check_ends, check_lost

LAST_TURN = 40


def check_turn(turn):
    if not 0 <= turn <= LAST_TURN:
        raise BadNumber("a turn from 0 to 40 is asked for")


def check_lost_pairs(net, lost):
    check_lost(net, [number for number, turn in lost])


def check_spread(net, source, house, turn, letters, lost):
    check_ends(net, source, house)
    check_turn(turn)
    check_letters(letters)
    check_lost_pairs(net, lost)


def sendings(net, turn, lost):
    """Arcs from houses at turns to houses at turns: all that can be sent and is there by this turn."""
    lost_pairs = {pair: True for pair in lost}
    arcs = [((one, at), (other, at + slow), (number, at))
            for number, one, other, slow in net.lines() for at in range(turn - slow + 1)]
    return [arc for arc in arcs if arc[2] not in lost_pairs]


def keepings(net, turn, letters):
    """Arcs of each house from turn to turn: it keeps what came, and never more than the letters are asked for."""
    return [((house, at), (house, at + 1), (house, at, again))
            for house in net.houses() for at in range(turn) for again in range(letters)]


def spread_out(net, source, house, turn, letters, lost):
    """The arcs, those of them that are used in a dict, and how many ways to the house these are."""
    check_spread(net, source, house, turn, letters, lost)
    arcs = sendings(net, turn, lost) + keepings(net, turn, letters)
    used = led(arcs, (source, 0), (house, turn), letters)
    return arcs, used, len(parted(arcs, (source, 0), (house, turn), used))


def reach(net, source, house, turn, *, letters=2, lost=()):
    """How many independent rows can have come to the house by this turn, never more than the letters."""
    arcs, used, many = spread_out(net, source, house, turn, letters, lost)
    return many


def bar(net, source, house, turn, *, letters=2, lost=()):
    """Since when each house is light, in a bar just as broad as the reach; or None where that is the letters."""
    arcs, used, many = spread_out(net, source, house, turn, letters, lost)
    if many == letters:
        return None
    # A house that is found at a turn is found at all later ones: the arcs by which it keeps are as many as the
    # letters, so never all used here.
    found = reached((source, 0), steps_left(arcs, used))
    return [(name, first_turn(name, turn, found)) for name in net.houses()]


def first_turn(house, turn, found):
    turns = [at for at in range(turn + 1) if (house, at) in found]
    return turns[0] if len(turns) > 0 else None


def is_light(since, turn):
    return since is not None and since <= turn


def bar_breadth(net, bar, turn, *, lost=()):
    """How many sendings lead from light houses to houses that are not light as they come there."""
    for house, since in bar:
        net.check_house(house)
    check_turn(turn)
    check_lost_pairs(net, lost)
    light_since = dict(bar)
    return len([key for (one, sent), (other, came), key in sendings(net, turn, lost)
                if is_light(light_since.get(one), sent) and not is_light(light_since.get(other), came)])
