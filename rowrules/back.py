"""The way back of a small rule that is one to one."""

from rowrules.before import before_at
from rowrules.errors import NoWayBack, TooWide
from rowrules.frames import frame
from rowrules.pairs import EVEN, pair_nexts, ranks
from rowrules.rules import LONGEST_TABLE, places, rule, table_length
from rowrules.ways import most_steps
from rowrules.words import word_of


# Both ends of the window count. Rows that are alike but on one side of a place where they differ can walk from the
# even pair so far as ways from it go, or to it so far as ways to it do, while what comes of them stays alike.
def way_back(one):
    framed = frame(one)
    ranked = ranks(framed)
    if ranked is None:
        raise NoWayBack("the rule is not one to one")
    even = ranked[0]
    many = even + most_steps(pair_nexts(framed))[EVEN] + 2 - places(framed)
    if table_length(framed[0], many) > LONGEST_TABLE:
        raise TooWide("the way back has too long a table")
    table = []
    for number in range(table_length(framed[0], many)):
        come = word_of(number, framed[0], many)
        # What leads to the window's word begins so many places ahead of the place that is asked for.
        table.append(before_at(framed, come, 0)[even])
    return rule(framed[0], -framed[1] - even, table)
