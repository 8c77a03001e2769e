"""What comes before a stretch: how many words lead to it, and which, in their order as lists."""

from rowrules.errors import NoSuch
from rowrules.rows import led
from rowrules.rules import heads, places, told_from
from rowrules.words import check_at_least, check_word, number_of, word_of


# How many ways each of these words of the window opens, by its last signs.
def shares(one, fitting, ways):
    return [ways[number % heads(one)] for number in fitting]


# A word that leads to the row is read sign by sign behind its head (all signs but the last of the first window). The
# k-th list has for each head, by its number, how many ways lead on from it to the row's end, k signs of it being led.
def ways_on(one, row):
    ways = [[1] * heads(one)]
    for sign in reversed(row):
        ends = ways[-1]
        ways.append([sum(shares(one, told_from(one, head, sign), ends)) for head in range(heads(one))])
    return list(reversed(ways))


# Which of the parts has the one with this number, all being laid end to end, and its number within that part.
def choose(parts, number):
    at = 0
    rest = number
    while rest >= parts[at]:
        rest = rest - parts[at]
        at = at + 1
    return (at, rest)


def word_by(one, row, ways, number):
    chosen = choose(ways[0], number)
    head = chosen[0]
    word = word_of(head, one[0], places(one) - 1)
    for at, sign in enumerate(row):
        fitting = told_from(one, head, sign)
        chosen = choose(shares(one, fitting, ways[at + 1]), chosen[1])
        taken = fitting[chosen[0]]
        word.append(taken % one[0])
        head = taken % heads(one)
    return word


def many_before(one, row):
    check_word(row, one[0])
    return sum(ways_on(one, row)[0])


def before_at(one, row, number):
    check_word(row, one[0])
    ways = ways_on(one, row)
    if number < 0 or number >= sum(ways[0]):
        raise NoSuch("no word that leads to the row has this number")
    return word_by(one, row, ways, number)


def place_before(one, row):
    short = places(one) - 1
    check_at_least(row, one[0], short)
    come = led(one, row)
    ways = ways_on(one, come)
    head = number_of(row[:short], one[0])
    number = sum(ways[0][:head])
    for at, sign in enumerate(come):
        taken = head * one[0] + row[short + at]
        earlier = [fit for fit in told_from(one, head, sign) if fit < taken]
        number = number + sum(shares(one, earlier, ways[at + 1]))
        head = taken % heads(one)
    return number


def all_before(one, row, most=50):
    check_word(row, one[0])
    ways = ways_on(one, row)
    return [word_by(one, row, ways, number) for number in range(min(most, sum(ways[0])))]
