"""Papers: each is made of what it tells, and is asked whether it holds for a small rule."""

from rowrules.back import undoes
from rowrules.before import many_before
from rowrules.frames import everything, frame, single_steps, step_by
from rowrules.onto import lost, reach_paper
from rowrules.pairs import EVEN, all_pairs, begin_of, end_of, ranks, twins, word_pairs
from rowrules.rows import lead_ring
from rowrules.rules import places_for
from rowrules.weights import changed, changes_total, first_wrong, flows_by, gains_by, many_gains
from rowrules.words import is_ring, is_word


class Paper:
    def told(self):
        return ()

    def holds(self, one):
        return False


class OntoPaper(Paper):
    def __init__(self, sets):
        self.sets = list(sets)

    def told(self):
        return (list(self.sets),)

    def holds(self, one):
        return are_closed(frame(one), self.sets)


class LostPaper(Paper):
    def __init__(self, row):
        self.row = list(row)

    def told(self):
        return (list(self.row),)

    def holds(self, one):
        framed = frame(one)
        return is_word(self.row, framed[0]) and many_before(framed, self.row) == 0


class RankPaper(Paper):
    def __init__(self, even, rows):
        self.even = even
        self.rows = list(rows)

    def told(self):
        return (self.even, list(self.rows))

    def holds(self, one):
        framed = frame(one)
        pairs = [(row[0], row[1]) for row in self.rows]
        pairs.append(EVEN)
        if sorted(pairs) != sorted(all_pairs(framed)):
            return False
        rank = {EVEN: self.even}
        for row in self.rows:
            rank[(row[0], row[1])] = row[2]
        return rises(framed, rank)


class BackPaper(Paper):
    def __init__(self, other):
        self.other = other

    def told(self):
        return (self.other,)

    def holds(self, one):
        framed = frame(one)
        return framed[0] == self.other[0] and undoes(framed, self.other) and undoes(self.other, framed)


class TwinPaper(Paper):
    def __init__(self, row, other):
        self.row = list(row)
        self.other = list(other)

    def told(self):
        return (list(self.row), list(self.other))

    # What a ring is led to has as many signs as the ring, so rings with unlike numbers of signs are told apart here.
    def holds(self, one):
        framed = frame(one)
        if not is_ring(self.row, framed[0]) or not is_ring(self.other, framed[0]) or self.row == self.other:
            return False
        return lead_ring(framed, self.row) == lead_ring(framed, self.other)


class KeepingPaper(Paper):
    def __init__(self, weights, flows):
        self.weights = list(weights)
        self.flows = list(flows)

    def told(self):
        return (list(self.weights), list(self.flows))

    def holds(self, one):
        framed = frame(one)
        signs = framed[0]
        if places_for(signs, len(self.weights)) == 0:
            return False
        if len(self.flows) * signs != many_gains(framed, self.weights):
            return False
        return first_wrong(signs, gains_by(framed, self.weights), self.flows) is None


class ChangePaper(Paper):
    def __init__(self, weights, ring):
        self.weights = list(weights)
        self.ring = list(ring)

    def told(self):
        return (list(self.weights), list(self.ring))

    def holds(self, one):
        framed = frame(one)
        if places_for(framed[0], len(self.weights)) == 0 or not is_ring(self.ring, framed[0]):
            return False
        return changes_total(framed, self.weights, self.ring)


# Whether these are sets of nodes other than 0, the set of all nodes is among them, and with each of them each set to
# which one steps from it.
def are_closed(framed, sets):
    singles = single_steps(framed)
    whole = everything(framed)
    among = {}
    for some in sets:
        among[some] = True
    if whole not in among:
        return False
    for some in among:
        if some < 1 or some > whole:
            return False
        if not all([step_by(singles, some, sign) in among for sign in range(framed[0])]):
            return False
    return True


def rises(framed, rank):
    for words in word_pairs(framed):
        if rank[begin_of(framed, words)] >= rank[end_of(framed, words)]:
            return False
    return True


def onto_paper(one):
    stretch = lost(one)
    if stretch is None:
        return OntoPaper([row[0] for row in reach_paper(one)])
    return LostPaper(stretch)


def one_paper(one):
    ranked = ranks(one)
    if ranked is None:
        rings = twins(one)
        return TwinPaper(rings[0], rings[1])
    return RankPaper(ranked[0], ranked[1])


def kept_paper(one, weights):
    ring = changed(one, weights)
    if ring is None:
        framed = frame(one)
        return KeepingPaper(weights, flows_by(framed[0], gains_by(framed, weights)))
    return ChangePaper(weights, ring)


def paper_for(one, question, weights=None):
    if question == "onto":
        return onto_paper(one)
    if question == "one":
        return one_paper(one)
    return kept_paper(one, weights)
