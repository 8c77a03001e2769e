"""Rules made of rules: moved, turned about, joined, repeated."""

from rowrules.errors import NoRule, TooWide
from rowrules.forms import narrow
from rowrules.rows import led
from rowrules.rules import LONGEST_TABLE, next_sign, places, rule, still, table_length
from rowrules.words import word_of


def moved(one, by):
    return rule(one[0], one[1] + by, one[2])


def turned(one):
    many = places(one)
    table = []
    for number in range(len(one[2])):
        table.append(next_sign(one, list(reversed(word_of(number, one[0], many)))))
    return rule(one[0], 1 - one[1] - many, table)


def joined(first, second):
    if first[0] != second[0]:
        raise NoRule("rules with unlike numbers of signs are not joined")
    ahead = narrow(first)
    behind = narrow(second)
    signs = first[0]
    many = places(ahead) + places(behind) - 1
    if table_length(signs, many) > LONGEST_TABLE:
        raise TooWide("the joined rule has too long a table")
    table = []
    for number in range(table_length(signs, many)):
        table.append(next_sign(behind, led(ahead, word_of(number, signs, many))))
    return narrow(rule(signs, ahead[1] + behind[1], table))


def repeated(one, many):
    if many == 0:
        return still(one[0])
    come = narrow(one)
    for done in range(1, many):
        come = joined(come, one)
    return come
