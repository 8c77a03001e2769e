"""Words: lists of signs, and the numbers that they write."""

from rowrules.errors import NoRow, NoSuch


# Python counts True and False as ints; here they are no numbers.
def is_whole(thing):
    return isinstance(thing, int) and not isinstance(thing, bool)


def is_sign(thing, signs):
    return is_whole(thing) and 0 <= thing and thing < signs


def is_word(word, signs):
    return all([is_sign(thing, signs) for thing in word])


def is_ring(word, signs):
    return len(word) > 0 and is_word(word, signs)


def check_word(word, signs):
    for at, thing in enumerate(word):
        if not is_sign(thing, signs):
            raise NoRow(at)


# What is no sign goes first: it stands ahead of the place where the length is found wrong.
def check_length(word, signs, many):
    check_word(word[:many], signs)
    if len(word) != many:
        raise NoRow(min(len(word), many))


def check_at_least(word, signs, fewest):
    check_word(word, signs)
    if len(word) < fewest:
        raise NoRow(len(word))


def number_of(word, signs):
    check_word(word, signs)
    number = 0
    for sign in word:
        number = number * signs + sign
    return number


def word_of(number, signs, many):
    if number < 0:
        raise NoSuch("the number of a word is never below nought")
    backwards = []
    rest = number
    while len(backwards) < many:
        backwards.append(rest % signs)
        rest = rest // signs
    if rest > 0:
        raise NoSuch("the number is too great for a word of so many signs")
    return list(reversed(backwards))
