"""What is kept: totals of rings, the flows of weights that a rule keeps, and a ring where it doesn't."""

from rowrules.errors import NoWeights, TooWide
from rowrules.frames import frame
from rowrules.rows import lead, lead_ring
from rowrules.rules import heads, places, places_for
from rowrules.words import check_at_least, is_whole, number_of, word_of

MOST_GAINS = 729


def check_weights(signs, weights):
    if not isinstance(weights, list) or places_for(signs, len(weights)) == 0:
        raise NoWeights("weights are a list of one number for each word of some length")
    for weight in weights:
        if not is_whole(weight):
            raise NoWeights("weights are whole numbers")


# A ring is weighed as it is led, the weights being what is told.
def weigh(signs, weights, ring):
    return sum(lead_ring((signs, 0, weights), ring))


def total(signs, weights, ring):
    check_weights(signs, weights)
    check_at_least(ring, signs, 1)
    return weigh(signs, weights, ring)


# L of point 29.
def gain_places(framed, weights):
    return places(framed) + places_for(framed[0], len(weights)) - 1


# How many words of L signs there are.
def many_gains(framed, weights):
    return heads(framed) * len(weights)


def gains_by(framed, weights):
    signs = framed[0]
    many = gain_places(framed, weights)
    gains = []
    for number in range(many_gains(framed, weights)):
        come = number_of(lead(framed, word_of(number, signs, many)), signs)
        gains.append(weights[come] - weights[number // heads(framed)])
    return gains


def checked_gains(one, weights):
    framed = frame(one)
    check_weights(framed[0], weights)
    if many_gains(framed, weights) > MOST_GAINS:
        raise TooWide("there are too many words to be weighed")
    return gains_by(framed, weights)


# The flows that there are if there are any. By a word that begins with a nought one steps to the word with the same
# number that is shorter by one, from one with a lesser number.
def flows_by(signs, gains):
    found = [0]
    for number in range(1, len(gains) // signs):
        found.append(found[number // signs] - gains[number])
    return found


# The number of the first word whose gain these flows don't make, or None.
def first_wrong(signs, gains, found):
    for number, gain in enumerate(gains):
        if gain != found[number // signs] - found[number % len(found)]:
            return number
    return None


def flows(one, weights):
    gains = checked_gains(one, weights)
    found = flows_by(one[0], gains)
    if first_wrong(one[0], gains, found) is None:
        return found
    return None


def kept(one, weights):
    return flows(one, weights) is not None


def changes_total(one, weights, ring):
    return weigh(one[0], weights, ring) != weigh(one[0], weights, lead_ring(one, ring))


# Two rings begin with noughts, as many as make the flow 0; the one goes on with the word whose gain isn't made, the
# other with the same word without its first sign. All other gains being made alike, not both rings keep their totals.
def changed(one, weights):
    gains = checked_gains(one, weights)
    wrong = first_wrong(one[0], gains, flows_by(one[0], gains))
    if wrong is None:
        return None
    many = gain_places(frame(one), weights)
    word = word_of(wrong, one[0], many)
    noughts = [0] * (many - 1)
    if changes_total(one, weights, noughts + word):
        return noughts + word
    return noughts + word[1:]
