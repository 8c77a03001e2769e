"""The frame of a small rule, its nodes, and the steps from one set of nodes to another."""

from rowrules.errors import TooWide
from rowrules.forms import narrow, widened
from rowrules.rules import heads, places, told_from

MOST_NODES = 9


def frame(one):
    least = narrow(one)
    if places(least) == 1:
        return widened(least, least[1], least[1] + 1)
    if heads(least) > MOST_NODES:
        raise TooWide("the rule is not small")
    return least


def nodes(one):
    return heads(frame(one))


def everything(one):
    return (1 << nodes(one)) - 1


# The ends of these words of the window, as a set of nodes.
def ends_of(framed, fitting):
    some = 0
    for number in fitting:
        some = some | (1 << (number % heads(framed)))
    return some


# For each node the sets to which it steps when it stands alone, by the signs in their order: whoever takes many steps
# reckons these once.
def single_steps(framed):
    singles = []
    for node in range(heads(framed)):
        singles.append([ends_of(framed, told_from(framed, node, sign)) for sign in range(framed[0])])
    return singles


def step_by(singles, some, sign):
    come = 0
    for node, steps in enumerate(singles):
        if (some >> node) & 1 == 1:
            come = come | steps[sign]
    return come


def step(one, some, sign):
    return step_by(single_steps(frame(one)), some, sign)
