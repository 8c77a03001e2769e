"""What the tests share: rules and words to ask about, and what DOC.md says of them, reckoned the slow and plain way."""

import itertools
import random
import unittest

from rowrules.errors import NoRow, RowError

ALL_SIGNS = range(2, 10)
MOST_PLACES = {2: 8, 3: 5, 4: 4, 5: 3, 6: 3, 7: 2, 8: 2, 9: 2}
WINDOWS = [(signs, many) for signs in ALL_SIGNS for many in range(1, MOST_PLACES[signs] + 1)]
SMALL_WINDOWS = [(signs, many) for signs, many in WINDOWS if many == 1 or signs ** (many - 1) <= 9]
LARGE_WINDOWS = [window for window in WINDOWS if window not in SMALL_WINDOWS]
LOWS = [0, 1, -1, 7, -300, 10 ** 60 + 7, -(10 ** 60) - 3, 10 ** 299, -(10 ** 299)]
NO_SIGNS = [True, False, None, "", "1", [], [0], (0,), {}, 1.0, 0.0, -1, -(10 ** 299), 10 ** 299]


def mixed_table(signs, length):
    return [(k * k + 5 * k // 3 + 1) % signs for k in range(length)]


def mixed_rule(signs, many, low=0):
    return (signs, low, tuple(mixed_table(signs, signs ** many)))


# Every place of its window counts.
def large_rule(signs, many, low=0):
    return (signs, low, (1,) + (0,) * (signs ** many - 1))


def mixed_word(signs, many):
    return [(k * k + 3 * k // 2 + 1) % signs for k in range(many)]


def some_rules(signs, many, low=0, how_many=3):
    """Rules of any table, the same ones each time."""
    source = random.Random(1000 * signs + many)
    return [
        (signs, low, tuple(source.randrange(signs) for k in range(signs ** many))) for k in range(how_many)
    ]


def rule_of(signs, low, many, tell):
    """The rule that tells tell(word) for each word."""
    return (signs, low, tuple(tell(word) for word in words_in_order(signs, many)))


def words_in_order(signs, many):
    return [list(word) for word in itertools.product(range(signs), repeat=many)]


def places_by(one):
    return next(many for many in range(1, 9) if one[0] ** many == len(one[2]))


def told_by(one, word):
    return one[2][sum(sign * one[0] ** k for k, sign in enumerate(reversed(word)))]


def next_at(one, sign_at, place):
    """The next sign at a place of the endless row that has sign_at(i) at the place i."""
    return told_by(one, [sign_at(place + one[1] + k) for k in range(places_by(one))])


def stretch_led(one, row):
    many = places_by(one)
    return [told_by(one, row[k:k + many]) for k in range(len(row) - many + 1)]


def ring_led(one, ring):
    return [next_at(one, lambda place: ring[place % len(ring)], i) for i in range(len(ring))]


def counts_by_hand(one, at):
    for word in words_in_order(one[0], places_by(one)):
        for sign in range(one[0]):
            if told_by(one, word) != told_by(one, word[:at] + [sign] + word[at + 1:]):
                return True
    return False


def counting_by_hand(one):
    return [one[1] + at for at in range(places_by(one)) if counts_by_hand(one, at)]


def frame_by_hand(one):
    """The rule by its narrowest window, or by that of two places, looked at with noughts all about the window."""
    found = counting_by_hand(one) or [0]
    first, last = found[0], max(found[-1], found[0] + 1)

    def tell(word):
        return next_at(one, lambda place: word[place - first] if first <= place <= last else 0, 0)

    return rule_of(one[0], first, last - first + 1, tell)


# The sum of the signs at some places of the window: just these count.
def sum_rule(signs, low, many, chosen):
    return rule_of(signs, low, many, lambda word: sum(word[at] for at in chosen) % signs)


def tables_in_order(signs, many):
    return [tuple(table) for table in itertools.product(range(signs), repeat=signs ** many)]


class Refusals(unittest.TestCase):
    def refused(self, error, call, *given):
        with self.subTest((call.__name__, given)):
            with self.assertRaises(RowError) as caught:
                call(*given)
            self.assertIs(type(caught.exception), error)

    def refused_at(self, at, call, *given):
        with self.subTest((call.__name__, given)):
            with self.assertRaises(RowError) as caught:
                call(*given)
            self.assertIs(type(caught.exception), NoRow)
            self.assertEqual(caught.exception.at, at)
            self.assertIs(type(caught.exception.at), int)

    def words_alone(self, call, one, least=0):
        """What is no sign, anywhere in the word, is refused with the number of the first such thing."""
        signs = one[0]
        for wrong in NO_SIGNS + [signs, signs + 1]:
            for length in (max(1, least), least + 1, least + 4):
                for at in range(length):
                    self.refused_at(at, call, one, [0] * at + [wrong] + [1] * (length - at - 1))
        self.refused_at(1, call, one, [0, signs, None, True, -1] + [0] * least)
        self.refused_at(2, call, one, [1, 0, "1"] + [0] * least + [[]])
        self.refused_at(0, call, one, [None, None, 0] + [0] * least)
        self.refused_at(299, call, one, [0] * 299 + [signs])
        self.refused_at(150, call, one, [1] * 150 + [True] + [1] * 149)
