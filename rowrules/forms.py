"""The forms of a rule: the places that count, its narrowest window, and other windows that tell it."""

from rowrules.errors import NoWindow, TooWide
from rowrules.rules import LONGEST_TABLE, next_sign, places, rule, table_length
from rowrules.words import word_of


# The place is known by its weight, what a sign there is multiplied by in a word's number. It is enough to hold each
# word against the one with a nought there: where these are told alike, all are.
def counts(one, weight):
    table = one[2]
    for number, told in enumerate(table):
        there = number // weight % one[0]
        if told != table[number - there * weight]:
            return True
    return False


def counting(one):
    found = []
    weight = len(one[2])
    for at in range(places(one)):
        weight = weight // one[0]
        if counts(one, weight):
            found.append(one[1] + at)
    return found


def sign_or_nought(word, at):
    if at < 0 or at >= len(word):
        return 0
    return word[at]


# A place that the new window lacks doesn't count, so any sign may stand there; nought does.
def by_window(one, low, many):
    ahead = one[1] - low
    table = []
    for number in range(table_length(one[0], many)):
        word = word_of(number, one[0], many)
        table.append(next_sign(one, [sign_or_nought(word, ahead + at) for at in range(places(one))]))
    return rule(one[0], low, table)


def narrow(one):
    found = counting(one)
    if len(found) == 0:
        return by_window(one, 0, 1)
    return by_window(one, found[0], found[-1] - found[0] + 1)


def same(one, other):
    return one[0] == other[0] and narrow(one) == narrow(other)


def widened(one, low, high):
    if low > high:
        raise NoWindow("a window has at least one place")
    for place in counting(one):
        if place < low or place > high:
            raise NoWindow("a place that counts is outside the window")
    if table_length(one[0], high - low + 1) > LONGEST_TABLE:
        raise TooWide("the window has too long a table")
    return by_window(one, low, high - low + 1)
