"""Rows reached: the paper of a small rule's reach, whether it is onto, and the lost stretch where it isn't."""

from rowrules.frames import everything, frame, single_steps, step_by


# Each set that one comes to, with the sets to which one steps from it by the signs in their order.
def sets_reached(one):
    framed = frame(one)
    singles = single_steps(framed)
    nexts = {}
    waiting = [everything(framed)]
    while len(waiting) > 0:
        some = waiting.pop()
        if some not in nexts:
            nexts[some] = [step_by(singles, some, sign) for sign in range(framed[0])]
            waiting.extend(nexts[some])
    return nexts


def sets_ahead(nexts):
    ahead = {}
    for some in nexts:
        for come in nexts[some]:
            ahead.setdefault(come, []).append(some)
    return ahead


# Walked back from the set 0, so the first number of steps that is found for a set is the least. A set from which one
# never comes there has none.
def steps_left(nexts):
    ahead = sets_ahead(nexts)
    left = {0: 0}
    found = [0]
    while len(found) > 0:
        further = []
        for come in found:
            for some in ahead.get(come, []):
                if some not in left:
                    left[some] = left[come] + 1
                    further.append(some)
        found = further
    return left


def reach_paper(one):
    nexts = sets_reached(one)
    left = steps_left(nexts)
    return [(some, nexts[some], left.get(some)) for some in sorted(nexts, reverse=True)]


def onto(one):
    return reach_paper(one)[0][2] is None


# The first sign that comes nearer to the set 0, at each step, makes the shortest stretch that is first of all.
def lost(one):
    nexts = sets_reached(one)
    left = steps_left(nexts)
    some = everything(one)
    if some not in left:
        return None
    stretch = []
    while some != 0:
        sign = [left.get(come) for come in nexts[some]].index(left[some] - 1)
        stretch.append(sign)
        some = nexts[some][sign]
    return stretch
