"""How many rings lead to a ring."""

from rowrules.frames import frame
from rowrules.rules import heads
from rowrules.words import check_at_least


# For each sign the words of the window that are told it, each as a step from the node that it begins with to the node
# that it ends with.
def steps_by_sign(framed):
    steps = [[] for sign in range(framed[0])]
    for number, told in enumerate(framed[2]):
        steps[told].append((number // framed[0], number % heads(framed)))
    return steps


def ways_round(many, steps, ring, start):
    ways = [0] * many
    ways[start] = 1
    for sign in ring:
        further = [0] * many
        for begin, end in steps[sign]:
            further[end] = further[end] + ways[begin]
        ways = further
    return ways[start]


# The rings that lead to a ring are the ways that come back to the node where they began while the frame tells the
# ring's signs. Where the window begins only turns these rings about, so low isn't looked at.
def rings_before(one, ring):
    framed = frame(one)
    check_at_least(ring, framed[0], 1)
    many = heads(framed)
    steps = steps_by_sign(framed)
    return sum([ways_round(many, steps, ring, start) for start in range(many)])
