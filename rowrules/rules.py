"""Rules: what makes one, what it tells, its number, and the rule that stands still."""

from rowrules.errors import NoRule, NoSuch
from rowrules.words import check_length, is_sign, is_whole, number_of, word_of

LONGEST_TABLE = 256


def check_head(signs, low):
    if not is_whole(signs) or signs < 2 or signs > 9:
        raise NoRule("there are from 2 to 9 signs")
    if not is_whole(low):
        raise NoRule("low is a whole number")


# Nought where no window has a table of this length.
def places_for(signs, length):
    many = 0
    words = 1
    while words < length:
        words = words * signs
        many = many + 1
    if words == length:
        return many
    return 0


# Once the table is too long its length matters no more, and many may be a very great number.
def table_length(signs, many):
    length = 1
    done = 0
    while done < many and length <= LONGEST_TABLE:
        length = length * signs
        done = done + 1
    return length


def check_table(signs, table):
    if not isinstance(table, (list, tuple)):
        raise NoRule("a table is a list or a tuple")
    if len(table) > LONGEST_TABLE or places_for(signs, len(table)) == 0:
        raise NoRule("no window has a table of this length")
    for told in table:
        if not is_sign(told, signs):
            raise NoRule("a table tells signs alone")


def rule(signs, low, table):
    check_head(signs, low)
    check_table(signs, table)
    return (signs, low, tuple(table))


def places(one):
    return places_for(one[0], len(one[2]))


def next_sign(one, word):
    check_length(word, one[0], places(one))
    return one[2][number_of(word, one[0])]


# The table's first sign is the least figure of the rule's number, but a word's first sign is its greatest.
def number_by(one):
    return number_of(list(reversed(one[2])), one[0])


def check_places(signs, many):
    if not is_whole(many) or many < 1:
        raise NoRule("a window has at least one place")
    if table_length(signs, many) > LONGEST_TABLE:
        raise NoRule("a window of so many places has too long a table")


def by_number(signs, low, many, number):
    check_head(signs, low)
    check_places(signs, many)
    if not is_whole(number):
        raise NoRule("a rule's number is a whole number")
    try:
        figures = word_of(number, signs, table_length(signs, many))
    except NoSuch:
        raise NoRule("no rule of so many places has this number") from None
    return rule(signs, low, list(reversed(figures)))


# The numbers of the window's words that have all signs but the last from the word with the number head, and that are
# told this sign. They rise, as their last signs do.
def told_from(one, head, sign):
    first = head * one[0]
    return [number for number in range(first, first + one[0]) if one[2][number] == sign]


# How many words are shorter by one than the window. The last signs of a window's word are, by their number, the rest
# when the word's own number is divided by this.
def heads(one):
    return len(one[2]) // one[0]


def still(signs):
    return rule(signs, 0, list(range(signs)))
