"""One to one: pairs of nodes, their ranks, and two unlike rings that are led to one ring."""

from rowrules.frames import frame
from rowrules.rules import heads, places
from rowrules.ways import most_steps, turned_back
from rowrules.words import word_of

# Stands for all pairs of a node and itself.
EVEN = (0, 0)


def pair_of(node, other):
    if node == other:
        return EVEN
    return (node, other)


def all_pairs(framed):
    pairs = [EVEN]
    for node in range(heads(framed)):
        pairs.extend([(node, other) for other in range(heads(framed)) if other != node])
    return pairs


# Each step of a pair as the numbers of its two words. A word beside itself is left out, being a step of the even pair
# to itself; no other two words step from the even pair to it.
def word_pairs(framed):
    found = []
    for word, told in enumerate(framed[2]):
        found.extend([(word, other) for other, like in enumerate(framed[2]) if like == told and other != word])
    return found


def begin_of(framed, words):
    return pair_of(words[0] // framed[0], words[1] // framed[0])


def end_of(framed, words):
    return pair_of(words[0] % heads(framed), words[1] % heads(framed))


def pair_nexts(framed):
    nexts = {}
    for pair in all_pairs(framed):
        nexts[pair] = []
    for words in word_pairs(framed):
        nexts[begin_of(framed, words)].append(end_of(framed, words))
    return nexts


# A pair on a way that comes back, or behind one, has no rank.
def pair_ranks(framed):
    return most_steps(turned_back(pair_nexts(framed)))


def ranks(one):
    framed = frame(one)
    found = pair_ranks(framed)
    if len(found) < len(all_pairs(framed)):
        return None
    return (found[EVEN], sorted([pair + (found[pair],) for pair in found if pair != EVEN]))


def one_to_one(one):
    return ranks(one) is not None


# To each pair without a rank another one without a rank steps. So whoever goes back from one to the next comes, after
# as many steps as there are such pairs, to one that lies on a way that comes back to it.
def way_round(framed):
    found = pair_ranks(framed)
    steps_in = {}
    for words in word_pairs(framed):
        if begin_of(framed, words) not in found:
            steps_in.setdefault(end_of(framed, words), words)
    pair = min(steps_in)
    for done in range(len(steps_in)):
        pair = begin_of(framed, steps_in[pair])
    way = [steps_in[pair]]
    while begin_of(framed, way[-1]) != pair:
        way.append(steps_in[begin_of(framed, way[-1])])
    return list(reversed(way))


# One of the two rings, sign by sign as its words end. A way comes to the even pair by some node and goes on by another
# one perhaps; between them both rings have the signs of the latter.
def ring_along(framed, way, which):
    ring = []
    for words in way:
        if begin_of(framed, words) == EVEN:
            ring.extend(word_of(words[which] // framed[0], framed[0], places(framed) - 1))
        ring.append(words[which] % framed[0])
    return ring


def twins(one):
    if one_to_one(one):
        return None
    framed = frame(one)
    way = way_round(framed)
    return (ring_along(framed, way, 0), ring_along(framed, way, 1))
