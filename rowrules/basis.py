"""All weights of single signs that a small rule keeps, and rings by which all other weights are told apart."""

from rowrules.frames import frame
from rowrules.rows import lead_ring
from rowrules.rules import heads, places
from rowrules.words import word_of


# How many of each sign the ring to which one is led has more than the ring itself.
def change_of(one, ring):
    come = lead_ring(one, ring)
    return [come.count(sign) - ring.count(sign) for sign in range(one[0])]


# The rings of point 30 for single signs: where weights aren't kept, the total of one of these changes.
def rings_to_ask(framed):
    short = places(framed) - 1
    noughts = [0] * short
    rings = [noughts + word_of(number, framed[0], short) for number in range(heads(framed))]
    return rings + [noughts + word_of(number, framed[0], short + 1) for number in range(len(framed[2]))]


def common_divisor(numbers):
    found = 0
    for number in numbers:
        rest = abs(number)
        while rest > 0:
            further = found % rest
            found = rest
            rest = further
    return found


def simplest(row):
    divisor = common_divisor(row)
    if divisor == 0:
        return row
    return [number // divisor for number in row]


# The place of the last number that is not 0; a row is known by it among others.
def foot(row):
    return max([at for at, number in enumerate(row) if number != 0])


# The row, mixed with the other one so that it has 0 at the other's foot.
def cleared(row, other):
    at = foot(other)
    return simplest([other[at] * number - row[at] * less for number, less in zip(row, other)])


# Rings whose changes are no sums of one another, while the change of each other ring is a sum of theirs; and these
# changes mixed so that at the foot of one all others have 0.
def rings_and_rows(one):
    framed = frame(one)
    rings = []
    rows = []
    for ring in rings_to_ask(framed):
        row = change_of(framed, ring)
        for other in rows:
            row = cleared(row, other)
        if any(row):
            rows = [cleared(other, row) for other in rows]
            rows.append(row)
            rings.append(ring)
    return (rings, rows)


# The weights that are kept with this head. They have 0 where no row has its foot; and where one has it, what brings
# its sum to 0, which stands behind the head, as a row has nothing behind its foot.
def weights_with_head(signs, rows, head):
    weights = [0] * signs
    weights[head] = 1
    for row in rows:
        weights[head] = weights[head] * abs(row[foot(row)])
    for row in rows:
        weights[foot(row)] = -row[head] * weights[head] // row[foot(row)]
    return simplest(weights)


def all_kept(one):
    rows = rings_and_rows(one)[1]
    feet = [foot(row) for row in rows]
    return [weights_with_head(one[0], rows, head) for head in range(one[0]) if head not in feet]


def changes(one):
    return rings_and_rows(one)[0]
