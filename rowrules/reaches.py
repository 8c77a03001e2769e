"""Whether one rule reaches all rows that another one reaches: the paper of it, and a stretch where it doesn't."""

from rowrules.errors import NoRule
from rowrules.frames import everything, frame, single_steps, step_by
from rowrules.rules import heads
from rowrules.ways import fewest_steps, reached


def check_as_many(one, other):
    if one[0] != other[0]:
        raise NoRule("the rules have unlike numbers of signs")


# Here and below framed is the one's frame and beside the other's; a pair is (node, set), the node being the other's.
def start_pairs(framed, beside):
    some = everything(framed)
    return [(node, some) for node in range(heads(beside))]


# The steps from a pair as tuples (sign, pair), one for each word that begins with the pair's node.
def signed_steps(singles, beside, pair):
    steps = []
    first = pair[0] * beside[0]
    for number in range(first, first + beside[0]):
        sign = beside[2][number]
        steps.append((sign, (number % heads(beside), step_by(singles, pair[1], sign))))
    return steps


def pairs_reached(framed, beside):
    singles = single_steps(framed)
    return reached(
        start_pairs(framed, beside), lambda pair: [come for sign, come in signed_steps(singles, beside, pair)]
    )


def pair_paper(one, other):
    check_as_many(one, other)
    return sorted(pairs_reached(frame(one), frame(other)))


# The steps from these pairs after which so many steps are left to a pair with the set 0.
def nearer_steps(framed, beside, left, pairs, steps):
    singles = single_steps(framed)
    nearer = []
    for pair in pairs:
        nearer.extend([step for step in signed_steps(singles, beside, pair) if left.get(step[1]) == steps])
    return nearer


# All pairs that the stretch so far leads to are walked side by side, so that the least sign is taken at each step.
def reaches(one, other):
    check_as_many(one, other)
    framed = frame(one)
    beside = frame(other)
    nexts = pairs_reached(framed, beside)
    left = fewest_steps(nexts, [pair for pair in nexts if pair[1] == 0])
    pairs = [pair for pair in start_pairs(framed, beside) if pair in left]
    if len(pairs) == 0:
        return None
    stretch = []
    steps = min([left[pair] for pair in pairs])
    while steps > 0:
        steps = steps - 1
        nearer = nearer_steps(framed, beside, left, pairs, steps)
        sign = min([step[0] for step in nearer])
        pairs = sorted(set([step[1] for step in nearer if step[0] == sign]))
        stretch.append(sign)
    return stretch
