"""Rows reached: the paper of a small rule's reach, whether it is onto, and the lost stretch where it isn't."""

from rowrules.frames import everything, frame, single_steps, step_by
from rowrules.ways import fewest_steps, reached


# Each set that one comes to, with the sets to which one steps from it by the signs in their order.
def sets_reached(one):
    framed = frame(one)
    singles = single_steps(framed)
    return reached([everything(framed)], lambda some: [step_by(singles, some, sign) for sign in range(framed[0])])


def reach_paper(one):
    nexts = sets_reached(one)
    left = fewest_steps(nexts, [0])
    return [(some, nexts[some], left.get(some)) for some in sorted(nexts, reverse=True)]


def onto(one):
    return reach_paper(one)[0][2] is None


# The first sign that comes nearer to the set 0, at each step, makes the shortest stretch that is first of all.
def lost(one):
    nexts = sets_reached(one)
    left = fewest_steps(nexts, [0])
    some = everything(one)
    if some not in left:
        return None
    stretch = []
    while some != 0:
        sign = [left.get(come) for come in nexts[some]].index(left[some] - 1)
        stretch.append(sign)
        some = nexts[some][sign]
    return stretch
