"""As many ways as can be led over arcs, none of them used twice.

An arc is a tuple: where it begins, where it ends, and its key, which no other arc has.
"""


def steps_left(arcs, used):
    """On over an arc that is free, back over a used one, which frees it again."""
    return [(other, one, key) if key in used else (one, other, key) for one, other, key in arcs]


def reached(start, steps):
    """By each place that the steps lead to, the last step of a shortest way there; by the start None."""
    steps_from = {}
    for step in steps:
        steps_from.setdefault(step[0], []).append(step)
    found = {start: None}
    queue = [start]
    at = 0
    while at < len(queue):
        steps_on = steps_from.get(queue[at], [])
        for step in steps_on:
            if step[1] not in found:
                found[step[1]] = step
                queue.append(step[1])
        at += 1
    return found


def way_to(goal, found):
    """The keys of the steps from the start to the goal."""
    way = []
    step = found[goal]
    while step is not None:
        way.append(step[2])
        step = found[step[0]]
    return way[::-1]


def led(arcs, start, goal, many):
    """The keys, in a dict, of the arcs of so many ways, or of as many as there are."""
    used = {}
    for again in range(many):
        found = reached(start, steps_left(arcs, used))
        if goal not in found:
            break
        for key in way_to(goal, found):
            if key in used:
                del used[key]
            else:
                used[key] = True
    return used


def parted(arcs, start, goal, used):
    """The ways that the used arcs are made of."""
    steps = [arc for arc in arcs if arc[2] in used]
    told = []
    found = reached(start, steps)
    while goal in found:
        way = way_to(goal, found)
        told.append(way)
        steps = [step for step in steps if step[2] not in way]
        found = reached(start, steps)
    return told
