"""The way back of a small rule that is one to one, and whether a rule is one."""

from rowrules.before import before_at
from rowrules.errors import NoWayBack, TooWide
from rowrules.frames import frame
from rowrules.pairs import EVEN, pair_nexts, ranks
from rowrules.rows import lead
from rowrules.rules import LONGEST_TABLE, heads, places, rule, table_length
from rowrules.ways import most_steps
from rowrules.words import word_of


# The window is as wide as point 27 allows, and both its ends count, so it is the narrowest. For a longest way from the
# even pair has two rows that are alike ahead of a place and unlike there, while what comes of them stays alike as long
# as the way goes; and a longest way to the even pair likewise from behind.
def way_back(one):
    framed = frame(one)
    ranked = ranks(framed)
    if ranked is None:
        raise NoWayBack("the rule is not one to one")
    even = ranked[0]
    many = even + most_steps(pair_nexts(framed))[EVEN] + 2 - places(framed)
    if table_length(framed[0], many) > LONGEST_TABLE:
        raise TooWide("the way back has too long a table")
    table = []
    for number in range(table_length(framed[0], many)):
        come = word_of(number, framed[0], many)
        # What leads to the window's word begins so many places ahead of the place that is asked for.
        table.append(before_at(framed, come, 0)[even])
    return rule(framed[0], -framed[1] - even, table)


# Whether to do the first and then the second leads every row to itself. They are not joined, which may be too wide.
def undoes(first, second):
    many = places(first) + places(second) - 1
    at = -first[1] - second[1]
    if at < 0 or at >= many:
        return False
    for number in range(len(first[2]) * heads(second)):
        word = word_of(number, first[0], many)
        if lead(second, lead(first, word)) != [word[at]]:
            return False
    return True
